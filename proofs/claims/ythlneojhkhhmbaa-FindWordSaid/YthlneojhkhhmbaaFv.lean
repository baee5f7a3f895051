/-
  The document's Word.
-/
import Derived.Test.YthlneojhkhhmbaaFw
set_option linter.unusedVariables false
set_option linter.unusedSimpArgs false
set_option maxRecDepth 100000
namespace Go.Proofs.Ythlneojhkhhmbaa.Fd
open Go Go.RowKit Go.Proofs.Ythlneojhkhhmbaa.Vk Go.Proofs.Ythlneojhkhhmbaa.Str Go.Proofs.Ythlneojhkhhmbaa.Ln Go.Proofs.Ythlneojhkhhmbaa.Cl Go.Proofs.Ythlneojhkhhmbaa.Mv Go.Proofs.Ythlneojhkhhmbaa.Wd Go.Shelf
attribute [local go_sem] Oper.semAt_some

theorem bwd_stop {f : Nat → Bool} {j : Nat} (h : j = 0 ∨ f (j - 1) = false) : bwd f j = j := by
  cases j with
  | zero => rfl
  | succ j =>
    rcases h with h | h
    · omega
    · exact bwd_no h
theorem bwd_run {f : Nat → Bool} : ∀ (d k : Nat), (∀ i, k ≤ i → i < k + d → f i = true) → bwd f (k + d) = bwd f k
  | 0, _, _ => rfl
  | d + 1, k, h => by
    rw [← Nat.add_assoc, bwd_yes (h (k + d) (by omega) (by omega))]
    exact bwd_run d k (fun i h1 h2 => h i h1 (by omega))
/-- Where the document's search for a word begins to read it. -/
def wS (s : ByteArray) (c : Nat) : Nat := if wF s c < s.size then wB s c else s.size
theorem back_end {s : ByteArray} {c k : Nat} (hc : c ≤ s.size) (hk : k ≤ c) (hinv : k < c → c < s.size ∧ ∀ j, k ≤ j → j ≤ c → ltr s j = true) (hex : k = 0 ∨ s.size ≤ k ∨ ltr s k = false ∨ ltr s (k - 1) = false) : fwd (ltr s) s.size k = wS s c := by
  by_cases hkc : k < c
  · obtain ⟨hcs, hall⟩ := hinv hkc
    have hf : wF s c = c := fwd_yes (hall c (by omega) (Nat.le_refl _))
    have hlk := hall k (Nat.le_refl _) hk
    rw [fwd_yes hlk]
    unfold wS wB
    rw [hf, if_pos hcs]
    have h1 := bwd_run (f := ltr s) (c - k) k (fun i h1 h2 => hall i h1 (by omega))
    rw [show k + (c - k) = c by omega] at h1
    rw [h1, bwd_stop]
    rcases hex with h | h | h | h
    · exact .inl h
    · omega
    · rw [hlk] at h; cases h
    · exact .inr h
  · obtain rfl : k = c := by omega
    have hff : fwd (ltr s) s.size k = wF s k := rfl
    rw [hff]
    unfold wS
    obtain ⟨g1, g2, g3, g4⟩ := fwd_ge (ltr s) s.size _ k (Nat.le_refl _)
    rw [hff] at g1 g2 g3 g4
    split
    · rename_i hlt
      unfold wB
      refine (bwd_stop ?_).symm
      by_cases e : wF s k = k
      · rw [e]
        rcases hex with h | h | h | h
        · exact .inl h
        · omega
        · have := g3 hlt; rw [e, h] at this; cases this
        · exact .inr h
      · exact .inr (g4 _ (by omega) (by omega))
    · have := g2 hc; omega
theorem wdR_yes {ls : List ByteArray} {i c q : Nat} {st : ByteArray} (hp : Plc ls (i : Int) (c : Int)) (hst : st = lineAt ls i) (h : wS st c = q) (hq : q < st.size) : wdR ls i c = ⟨i, q, st.extract q (wE st c), true⟩ := by
  unfold wS at h
  unfold wdR
  rw [Int.toNat_natCast, Int.toNat_natCast, ← hst]
  split at h
  · rename_i hlt
    rw [if_pos ⟨hp, hlt⟩, h]
  · omega
theorem wdR_no {ls : List ByteArray} {i c : Nat} {st : ByteArray} (hst : st = lineAt ls i) (h : wS st c = st.size) : wdR ls i c = W3.no := by
  unfold wS at h
  unfold wdR
  rw [Int.toNat_natCast, Int.toNat_natCast, ← hst]
  refine if_neg fun hh => ?_
  rw [if_pos hh.2] at h
  have := wB_le st c
  omega
theorem wS_end {st : ByteArray} {c q : Nat} (hc : c ≤ st.size) (h : wS st c = q) (hq : q < st.size) : fwd (fun j => !ltr st j) st.size q = wE st c := by
  unfold wS at h
  split at h
  · rw [← h]; exact wE_from hc
  · omega

set_option maxHeartbeats 16000000 in
theorem word5_any (a : Option Addr) (n c' : Nat) (ls : List ByteArray) (l cc : Int) (w : World) (h : Ss w a n c' ls) (hs : ∀ s ∈ ls, s.size ≤ 140737488355328) :
    Calls Try.prog 20 #[.slice a n c', .agg #[.int .i64 l, .int .i64 cc]] w fun e w' => e = .returned (wdR ls l cc).v ∧ Below w.heap.size w w' := by
  have hlen := h.length
  have hn := h.le63
  obtain ⟨X, hX⟩ : ∃ X, X = ((w.alloc (.cells #[.int .i64 l, .int .i64 cc] 27)).alloc (.cells #[.int .i64 0, .int .i64 0] 27)) := ⟨_, rfl⟩
  have hT : Tp w X l cc 0 0 := by rw [hX]; exact Tp.new w l cc
  have HX := Lib.hid hX
  have h1 := may_any a n c' ls l cc 1 X (SrcV.below h hT.below)
  have p0 := hT.pos.c0
  have p1 := hT.pos.c1
  by_cases hp : Plc ls l cc
  rotate_left
  · have hr : wdR ls l cc = W3.no := if_neg fun hh => hp hh.1
    rw [hr]
    rw [decide_eq_false (fun hh => hp hh.1)] at h1
    clear hr hX hp h
    go_enter Try.func20, Try.ntmps20
    go_wp2_with fail
    rw [← HX.out]
    refine h1.mono ?_
    rintro e w2 ⟨rfl, hb2⟩
    have T2 := hT.on hb2
    clear p0 p1 h1 hT hb2
    have p0 := T2.pos.c0
    have p1 := T2.pos.c1
    have a0 := T2.ps.c0
    have a1 := T2.ps.c1
    have za := fun k => frozen_of_row _ _ k _ _ T2.ps
    go_wp2
    exact ret_psb (g := w.heap.size + 1) rfl rfl rfl rfl rfl (T2.set 0 0).ps ⟨rfl, (T2.set 0 0).below⟩
  obtain ⟨i, c, rfl, rfl, hi, hcz⟩ := hp.nat
  rw [decide_eq_true ⟨hp, Int.le_refl 1⟩] at h1
  obtain ⟨ba, o, rfl, hcx, hnc, _⟩ := h.read i (by omega)
  have hlt := lineAt_get hi
  have hstz := hs (ls[i]'hi) (List.getElem_mem hi)
  rw [← hlt] at hcx hstz
  obtain ⟨st, hst⟩ : ∃ st, st = lineAt ls i := ⟨_, rfl⟩
  rw [← hst] at hcx hstz hcz
  have hin : i < n := by omega
  have HPL := Lib.hid (And.intro hp hst)
  clear hX hp h hlt hst hs
  go_enter Try.func20, Try.ntmps20
  go_wp2_with fail
  rw [← HX.out]
  refine h1.mono ?_
  rintro e w2 ⟨rfl, hb2⟩
  have T2 := hT.on hb2
  have c3 := cell_later T2.below hcx
  clear p0 p1 h1 hT hb2 hcx
  have p0 := T2.pos.c0
  have p1 := T2.pos.c1
  go_wp2
  clear c3
  go_loopw [8] (fun u wr => ∃ k : Nat, k ≤ c ∧ u = .int .i64 k ∧ Hid (k < c → c < st.size ∧ ∀ j, k ≤ j → j ≤ c → ltr st j = true) ∧ w2 = wr) (fun u _ => (RowKit.intOf u).toNat)
  case atStart => exact ⟨c, Nat.le_refl _, rfl, fun hh => absurd hh (Nat.lt_irrefl _), rfl⟩
  case round =>
    obtain ⟨k, hkc, rfl, HI, rfl⟩ := hrel
    cases k with
    | zero =>
      have HS0 := Lib.hid (back_end hcz (Nat.zero_le _) HI.out (.inl rfl))
      clear HI hkc
      rw [show ((0 : Nat) : Int) = 0 from rfl]
      go_wp2
      go_loopw [8] (fun u wr => ∃ q : Nat, 0 ≤ q ∧ q ≤ st.size ∧ u = .int .i64 q ∧ Hid (fwd (ltr st) st.size q = wS st c) ∧ w2 = wr) (fun u _ => st.size - (RowKit.intOf u).toNat)
      case atStart => exact ⟨0, Nat.le_refl _, by omega, rfl, HS0.out, rfl⟩
      case round =>
        obtain ⟨q, hcq, hqz, rfl, HF, rfl⟩ := hrel
        clear HS0
        by_cases hqs : q < st.size
        · have hle := of5_at st q (by omega) w2
          by_cases hA : kl st false q = 1
          · have hws : wS st c = q := by rw [← HF.out, fwd_yes (by simp [ltr, hA])]
            have HWD := Lib.hid (wdR_yes HPL.out.1 HPL.out.2 hws hqs)
            have HE0 := Lib.hid (wS_end hcz hws hqs)
            have dq : decide (st.size ≤ q) = false := decide_eq_false (by omega)
            have dq2 : decide ((st.size : Int) ≤ (q : Int)) = false := decide_eq_false (by omega)
            rw [hA] at hle
            clear hA hws HF
            go_wp2_with fail
            refine hle.mono ?_
            rintro e w' ⟨rfl, rfl⟩
            clear hle
            go_wp2
            go_loopw [9] (fun u wr => ∃ v : Nat, q ≤ v ∧ v ≤ st.size ∧ u = .int .i64 v ∧ Hid (fwd (fun j => !ltr st j) st.size v = wE st c) ∧ w2 = wr) (fun u _ => st.size - (RowKit.intOf u).toNat)
            case atStart => exact ⟨q, Nat.le_refl _, by omega, rfl, HE0.out, rfl⟩
            case round =>
              obtain ⟨E, hkE, hEz, rfl, HEK, rfl⟩ := hrel
              clear HE0
              have a0 := T2.ps.c0
              have a1 := T2.ps.c1
              have za := fun k => frozen_of_row _ _ k _ _ T2.ps
              by_cases hEs : E < st.size
              · have hle := of5_at st E (by omega) w2
                by_cases hA : kl st false E = 1
                · have HEN : Hid (fwd (fun j => !ltr st j) st.size (E + 1) = wE st c) := by
                    have := HEK.out; rw [fwd_no (f := fun j => !ltr st j) hEs (by simp [ltr, hA])] at this; exact this
                  rw [hA] at hle
                  clear hA HEK
                  go_wp2_with fail
                  refine hle.mono ?_
                  rintro e w' ⟨rfl, rfl⟩
                  clear hle
                  go_wp2
                  go_roundw
                  case rel => exact ⟨E + 1, by omega, by omega, by go_num, HEN, by first | rfl | trivial⟩
                  case measure => simp [RowKit.intOf]; omega
                · have HE : Hid (wE st c = E) := by rw [← HEK.out]; exact fwd_yes (f := fun j => !ltr st j) (by simp [ltr, hA])
                  have hb : (kl st false E == 1) = false := by rw [beq_eq_false_iff_ne]; exact hA
                  generalize kl st false E = A at *
                  clear hA HEK
                  go_wp2_with fail
                  refine hle.mono ?_
                  rintro e w' ⟨rfl, rfl⟩
                  clear hle
                  have HR := Lib.hid (show wdR ls i c = ⟨i, q, st.extract q E, true⟩ from by rw [HWD.out, HE.out])
                  have hqE : q ≤ E := by omega
                  have T9 := T2
                  have F_p0 := fun (C : World → Prop) (hC : Grows w2 C) (y : In C) => hC.cell T9.pos.c0 y
                  have hsl := fun W => run_cut st q E (by omega) (by omega) W
                  clear p0 p1 a0 a1 za
                  go_wp2_with fail
                  refine wp_region_seg [0, 1, 2, 3] [(4, 2), (5, 2), (6, 2), (7, 2), (8, 3), (9, 2), (10, 2)] (by kernel_rfl) (by kernel_rfl) 87 rfl (by kernel_rfl) ?_
                  simp only [List.map_cons, List.map_nil, opOf_succ, opOf_zero]
                  apply Exists.intro
                  refine ⟨fun C hC => ?_, ?_⟩
                  · haveI hI := hC.one
                    have f_p0 := F_p0 C hC
                    repeat (go_big_quiet_step (fail))
                    exact wpQuiet_nil rfl
                  clear F_p0
                  refine wpPath_free (v := .string st) rfl rfl (fun _ => rfl) ?_
                  simp only [opOf_succ, opOf_zero, Act.put, List.setIfInBounds_toArray, List.set_cons_zero, List.set_cons_succ]
                  refine wpPath_free (v := .int .i64 ((q : Nat) : Int)) rfl rfl (fun _ => rfl) ?_
                  simp only [opOf_succ, opOf_zero, Act.put, List.setIfInBounds_toArray, List.set_cons_zero, List.set_cons_succ]
                  refine wpPath_free (v := .int .i64 ((E : Nat) : Int)) rfl rfl (fun _ => rfl) ?_
                  simp only [opOf_succ, opOf_zero, Act.put, List.setIfInBounds_toArray, List.set_cons_zero, List.set_cons_succ]
                  refine wpPath_free (v := .string (st.extract q E)) rfl rfl hsl ?_
                  simp only [opOf_succ, opOf_zero, Act.put, List.setIfInBounds_toArray, List.set_cons_zero, List.set_cons_succ]
                  refine wpPath_store rfl fun w00 hb_w00 => ?_
                  have T10 := T9.on hb_w00
                  refine ⟨_, rfl, run_store_pos T10.ps, ?_⟩
                  simp only [opOf_succ, opOf_zero, Act.put, List.setIfInBounds_toArray, List.set_cons_zero, List.set_cons_succ]
                  refine wpPath_free (v := .string (st.extract q E)) rfl rfl (fun _ => rfl) ?_
                  simp only [opOf_succ, opOf_zero, Act.put, List.setIfInBounds_toArray, List.set_cons_zero, List.set_cons_succ]
                  refine wpPath_free (v := .bool true) rfl rfl (fun _ => rfl) ?_
                  simp only [opOf_succ, opOf_zero, Act.put, List.setIfInBounds_toArray, List.set_cons_zero, List.set_cons_succ]
                  refine wpPath_end fun V9 hb_V9 => ?_
                  have T11 := (T10.set i q).onp hb_V9
                  clear T9 T10 hsl
                  go_wp2
                  exact ret_psb (g := w.heap.size + 1) rfl rfl rfl rfl rfl T11.1 ⟨by rw [HR.out]; rfl, T11.2⟩
              · obtain rfl : E = st.size := by omega
                have HE : Hid (wE st c = st.size) := by rw [← HEK.out]; exact fwd_end (Nat.le_refl _)
                clear HEK
                have HR := Lib.hid (show wdR ls i c = ⟨i, q, st.extract q st.size, true⟩ from by rw [HWD.out, HE.out])
                have hqE : q ≤ st.size := by omega
                have T9 := T2
                have F_p0 := fun (C : World → Prop) (hC : Grows w2 C) (y : In C) => hC.cell T9.pos.c0 y
                have hsl := fun W => run_cut st q st.size (by omega) (by omega) W
                clear p0 p1 a0 a1 za
                go_wp2_with fail
                refine wp_region_seg [0, 1, 2, 3] [(4, 2), (5, 2), (6, 2), (7, 2), (8, 3), (9, 2), (10, 2)] (by kernel_rfl) (by kernel_rfl) 87 rfl (by kernel_rfl) ?_
                simp only [List.map_cons, List.map_nil, opOf_succ, opOf_zero]
                apply Exists.intro
                refine ⟨fun C hC => ?_, ?_⟩
                · haveI hI := hC.one
                  have f_p0 := F_p0 C hC
                  repeat (go_big_quiet_step (fail))
                  exact wpQuiet_nil rfl
                clear F_p0
                refine wpPath_free (v := .string st) rfl rfl (fun _ => rfl) ?_
                simp only [opOf_succ, opOf_zero, Act.put, List.setIfInBounds_toArray, List.set_cons_zero, List.set_cons_succ]
                refine wpPath_free (v := .int .i64 ((q : Nat) : Int)) rfl rfl (fun _ => rfl) ?_
                simp only [opOf_succ, opOf_zero, Act.put, List.setIfInBounds_toArray, List.set_cons_zero, List.set_cons_succ]
                refine wpPath_free (v := .int .i64 ((st.size : Nat) : Int)) rfl rfl (fun _ => rfl) ?_
                simp only [opOf_succ, opOf_zero, Act.put, List.setIfInBounds_toArray, List.set_cons_zero, List.set_cons_succ]
                refine wpPath_free (v := .string (st.extract q st.size)) rfl rfl hsl ?_
                simp only [opOf_succ, opOf_zero, Act.put, List.setIfInBounds_toArray, List.set_cons_zero, List.set_cons_succ]
                refine wpPath_store rfl fun w00 hb_w00 => ?_
                have T10 := T9.on hb_w00
                refine ⟨_, rfl, run_store_pos T10.ps, ?_⟩
                simp only [opOf_succ, opOf_zero, Act.put, List.setIfInBounds_toArray, List.set_cons_zero, List.set_cons_succ]
                refine wpPath_free (v := .string (st.extract q st.size)) rfl rfl (fun _ => rfl) ?_
                simp only [opOf_succ, opOf_zero, Act.put, List.setIfInBounds_toArray, List.set_cons_zero, List.set_cons_succ]
                refine wpPath_free (v := .bool true) rfl rfl (fun _ => rfl) ?_
                simp only [opOf_succ, opOf_zero, Act.put, List.setIfInBounds_toArray, List.set_cons_zero, List.set_cons_succ]
                refine wpPath_end fun V9 hb_V9 => ?_
                have T11 := (T10.set i q).onp hb_V9
                clear T9 T10 hsl
                go_wp2
                exact ret_psb (g := w.heap.size + 1) rfl rfl rfl rfl rfl T11.1 ⟨by rw [HR.out]; rfl, T11.2⟩
          · have HFN : Hid (fwd (ltr st) st.size (q + 1) = wS st c) := by have := HF.out; rw [fwd_no hqs (by simp [ltr, hA])] at this; exact this
            have hb : (kl st false q != 1) = true := by rw [bne_iff_ne]; exact hA
            generalize kl st false q = A at *
            clear hA HF
            go_wp2_with fail
            refine hle.mono ?_
            rintro e w' ⟨rfl, rfl⟩
            clear hle
            go_wp2
            go_roundw
            case rel => exact ⟨q + 1, by omega, by omega, by go_num, HFN, by first | rfl | trivial⟩
            case measure => simp [RowKit.intOf]; omega
        · obtain rfl : q = st.size := by omega
          have HR := Lib.hid (wdR_no (c := c) HPL.out.2 (show wS st c = st.size by rw [← HF.out, fwd_end (Nat.le_refl _)]))
          clear HF p0 p1
          have p0 := T2.pos.c0
          have p1 := T2.pos.c1
          have a0 := T2.ps.c0
          have a1 := T2.ps.c1
          have za := fun k => frozen_of_row _ _ k _ _ T2.ps
          go_wp2
          exact ret_psb (g := w.heap.size + 1) rfl rfl rfl rfl rfl (T2.set 0 0).ps ⟨by rw [HR.out]; rfl, (T2.set 0 0).below⟩
    | succ v =>
      have hw1 : IntKind.i64.wrap (((v + 1 : Nat) : Int) - 1) = (v : Int) := by rw [IntKind.wrap_i64]; omega
      obtain ⟨k, hk⟩ : ∃ k, k = v + 1 := ⟨_, rfl⟩
      have dk : decide (0 < k) = true := decide_eq_true (by omega)
      have dk2 : decide ((0 : Int) < (k : Int)) = true := decide_eq_true (by omega)
      have hvc : v < c := by omega
      have hv1 : k - 1 = v := by omega
      rw [← hk] at hw1 HI hkc ⊢
      have HK1 := Lib.hid (And.intro hk hv1)
      clear hk hv1
      by_cases hks : k < st.size
      · have hvs : v < st.size := by have := HK1.out.1; omega
        have hle := of5_at st k (by omega) w2
        by_cases hA : kl st false k = 1
        · have HLK : Hid (ltr st k = true) := decide_eq_true hA
          rw [hA] at hle
          clear hA
          go_wp2_with fail
          refine hle.mono ?_
          rintro e w' ⟨rfl, rfl⟩
          clear hle
          have hle := of5_at st v (by omega) w2
          by_cases hA : kl st false v = 1
          · have HIN : Hid (v < c → c < st.size ∧ ∀ j, v ≤ j → j ≤ c → ltr st j = true) := by
              intro _
              have hlv : ltr st v = true := decide_eq_true hA
              have hkv := HK1.out.1
              by_cases hkc2 : k < c
              · obtain ⟨g1, g2⟩ := HI.out hkc2
                refine ⟨g1, fun j h1 h2 => ?_⟩
                by_cases e : j = v
                · rw [e]; exact hlv
                · exact g2 j (by omega) h2
              · refine ⟨by omega, fun j h1 h2 => ?_⟩
                by_cases e : j = v
                · rw [e]; exact hlv
                · rw [show j = k by omega]; exact HLK.out
            rw [hA] at hle
            clear hA HI
            go_wp2_with fail
            refine hle.mono ?_
            rintro e w' ⟨rfl, rfl⟩
            clear hle
            go_wp2
            go_roundw
            case rel => exact ⟨v, by omega, by go_num, HIN, by first | rfl | trivial⟩
            case measure => (have := HK1.out.1; simp [RowKit.intOf]; omega)
          · have HS0 := Lib.hid (back_end hcz hkc HI.out (.inr (.inr (.inr (by rw [HK1.out.2]; exact decide_eq_false hA)))))
            have hb : (kl st false v == 1) = false := by rw [beq_eq_false_iff_ne]; exact hA
            generalize kl st false v = A at *
            clear hA HI
            go_wp2_with fail
            refine hle.mono ?_
            rintro e w' ⟨rfl, rfl⟩
            clear hle
            go_wp2
            clear hb
            go_loopw [8] (fun u wr => ∃ q : Nat, k ≤ q ∧ q ≤ st.size ∧ u = .int .i64 q ∧ Hid (fwd (ltr st) st.size q = wS st c) ∧ w2 = wr) (fun u _ => st.size - (RowKit.intOf u).toNat)
            case atStart => exact ⟨k, Nat.le_refl _, by omega, rfl, HS0.out, rfl⟩
            case round =>
              obtain ⟨q, hcq, hqz, rfl, HF, rfl⟩ := hrel
              clear HS0
              by_cases hqs : q < st.size
              · have hle := of5_at st q (by omega) w2
                by_cases hA : kl st false q = 1
                · have hws : wS st c = q := by rw [← HF.out, fwd_yes (by simp [ltr, hA])]
                  have HWD := Lib.hid (wdR_yes HPL.out.1 HPL.out.2 hws hqs)
                  have HE0 := Lib.hid (wS_end hcz hws hqs)
                  have dq : decide (st.size ≤ q) = false := decide_eq_false (by omega)
                  have dq2 : decide ((st.size : Int) ≤ (q : Int)) = false := decide_eq_false (by omega)
                  rw [hA] at hle
                  clear hA hws HF
                  go_wp2_with fail
                  refine hle.mono ?_
                  rintro e w' ⟨rfl, rfl⟩
                  clear hle
                  go_wp2
                  go_loopw [9] (fun u wr => ∃ v : Nat, q ≤ v ∧ v ≤ st.size ∧ u = .int .i64 v ∧ Hid (fwd (fun j => !ltr st j) st.size v = wE st c) ∧ w2 = wr) (fun u _ => st.size - (RowKit.intOf u).toNat)
                  case atStart => exact ⟨q, Nat.le_refl _, by omega, rfl, HE0.out, rfl⟩
                  case round =>
                    obtain ⟨E, hkE, hEz, rfl, HEK, rfl⟩ := hrel
                    clear HE0
                    have a0 := T2.ps.c0
                    have a1 := T2.ps.c1
                    have za := fun k => frozen_of_row _ _ k _ _ T2.ps
                    by_cases hEs : E < st.size
                    · have hle := of5_at st E (by omega) w2
                      by_cases hA : kl st false E = 1
                      · have HEN : Hid (fwd (fun j => !ltr st j) st.size (E + 1) = wE st c) := by
                          have := HEK.out; rw [fwd_no (f := fun j => !ltr st j) hEs (by simp [ltr, hA])] at this; exact this
                        rw [hA] at hle
                        clear hA HEK
                        go_wp2_with fail
                        refine hle.mono ?_
                        rintro e w' ⟨rfl, rfl⟩
                        clear hle
                        go_wp2
                        go_roundw
                        case rel => exact ⟨E + 1, by omega, by omega, by go_num, HEN, by first | rfl | trivial⟩
                        case measure => simp [RowKit.intOf]; omega
                      · have HE : Hid (wE st c = E) := by rw [← HEK.out]; exact fwd_yes (f := fun j => !ltr st j) (by simp [ltr, hA])
                        have hb : (kl st false E == 1) = false := by rw [beq_eq_false_iff_ne]; exact hA
                        generalize kl st false E = A at *
                        clear hA HEK
                        go_wp2_with fail
                        refine hle.mono ?_
                        rintro e w' ⟨rfl, rfl⟩
                        clear hle
                        have HR := Lib.hid (show wdR ls i c = ⟨i, q, st.extract q E, true⟩ from by rw [HWD.out, HE.out])
                        have hqE : q ≤ E := by omega
                        have T9 := T2
                        have F_p0 := fun (C : World → Prop) (hC : Grows w2 C) (y : In C) => hC.cell T9.pos.c0 y
                        have hsl := fun W => run_cut st q E (by omega) (by omega) W
                        clear p0 p1 a0 a1 za
                        go_wp2_with fail
                        refine wp_region_seg [0, 1, 2, 3] [(4, 2), (5, 2), (6, 2), (7, 2), (8, 3), (9, 2), (10, 2)] (by kernel_rfl) (by kernel_rfl) 87 rfl (by kernel_rfl) ?_
                        simp only [List.map_cons, List.map_nil, opOf_succ, opOf_zero]
                        apply Exists.intro
                        refine ⟨fun C hC => ?_, ?_⟩
                        · haveI hI := hC.one
                          have f_p0 := F_p0 C hC
                          repeat (go_big_quiet_step (fail))
                          exact wpQuiet_nil rfl
                        clear F_p0
                        refine wpPath_free (v := .string st) rfl rfl (fun _ => rfl) ?_
                        simp only [opOf_succ, opOf_zero, Act.put, List.setIfInBounds_toArray, List.set_cons_zero, List.set_cons_succ]
                        refine wpPath_free (v := .int .i64 ((q : Nat) : Int)) rfl rfl (fun _ => rfl) ?_
                        simp only [opOf_succ, opOf_zero, Act.put, List.setIfInBounds_toArray, List.set_cons_zero, List.set_cons_succ]
                        refine wpPath_free (v := .int .i64 ((E : Nat) : Int)) rfl rfl (fun _ => rfl) ?_
                        simp only [opOf_succ, opOf_zero, Act.put, List.setIfInBounds_toArray, List.set_cons_zero, List.set_cons_succ]
                        refine wpPath_free (v := .string (st.extract q E)) rfl rfl hsl ?_
                        simp only [opOf_succ, opOf_zero, Act.put, List.setIfInBounds_toArray, List.set_cons_zero, List.set_cons_succ]
                        refine wpPath_store rfl fun w00 hb_w00 => ?_
                        have T10 := T9.on hb_w00
                        refine ⟨_, rfl, run_store_pos T10.ps, ?_⟩
                        simp only [opOf_succ, opOf_zero, Act.put, List.setIfInBounds_toArray, List.set_cons_zero, List.set_cons_succ]
                        refine wpPath_free (v := .string (st.extract q E)) rfl rfl (fun _ => rfl) ?_
                        simp only [opOf_succ, opOf_zero, Act.put, List.setIfInBounds_toArray, List.set_cons_zero, List.set_cons_succ]
                        refine wpPath_free (v := .bool true) rfl rfl (fun _ => rfl) ?_
                        simp only [opOf_succ, opOf_zero, Act.put, List.setIfInBounds_toArray, List.set_cons_zero, List.set_cons_succ]
                        refine wpPath_end fun V9 hb_V9 => ?_
                        have T11 := (T10.set i q).onp hb_V9
                        clear T9 T10 hsl
                        go_wp2
                        exact ret_psb (g := w.heap.size + 1) rfl rfl rfl rfl rfl T11.1 ⟨by rw [HR.out]; rfl, T11.2⟩
                    · obtain rfl : E = st.size := by omega
                      have HE : Hid (wE st c = st.size) := by rw [← HEK.out]; exact fwd_end (Nat.le_refl _)
                      clear HEK
                      have HR := Lib.hid (show wdR ls i c = ⟨i, q, st.extract q st.size, true⟩ from by rw [HWD.out, HE.out])
                      have hqE : q ≤ st.size := by omega
                      have T9 := T2
                      have F_p0 := fun (C : World → Prop) (hC : Grows w2 C) (y : In C) => hC.cell T9.pos.c0 y
                      have hsl := fun W => run_cut st q st.size (by omega) (by omega) W
                      clear p0 p1 a0 a1 za
                      go_wp2_with fail
                      refine wp_region_seg [0, 1, 2, 3] [(4, 2), (5, 2), (6, 2), (7, 2), (8, 3), (9, 2), (10, 2)] (by kernel_rfl) (by kernel_rfl) 87 rfl (by kernel_rfl) ?_
                      simp only [List.map_cons, List.map_nil, opOf_succ, opOf_zero]
                      apply Exists.intro
                      refine ⟨fun C hC => ?_, ?_⟩
                      · haveI hI := hC.one
                        have f_p0 := F_p0 C hC
                        repeat (go_big_quiet_step (fail))
                        exact wpQuiet_nil rfl
                      clear F_p0
                      refine wpPath_free (v := .string st) rfl rfl (fun _ => rfl) ?_
                      simp only [opOf_succ, opOf_zero, Act.put, List.setIfInBounds_toArray, List.set_cons_zero, List.set_cons_succ]
                      refine wpPath_free (v := .int .i64 ((q : Nat) : Int)) rfl rfl (fun _ => rfl) ?_
                      simp only [opOf_succ, opOf_zero, Act.put, List.setIfInBounds_toArray, List.set_cons_zero, List.set_cons_succ]
                      refine wpPath_free (v := .int .i64 ((st.size : Nat) : Int)) rfl rfl (fun _ => rfl) ?_
                      simp only [opOf_succ, opOf_zero, Act.put, List.setIfInBounds_toArray, List.set_cons_zero, List.set_cons_succ]
                      refine wpPath_free (v := .string (st.extract q st.size)) rfl rfl hsl ?_
                      simp only [opOf_succ, opOf_zero, Act.put, List.setIfInBounds_toArray, List.set_cons_zero, List.set_cons_succ]
                      refine wpPath_store rfl fun w00 hb_w00 => ?_
                      have T10 := T9.on hb_w00
                      refine ⟨_, rfl, run_store_pos T10.ps, ?_⟩
                      simp only [opOf_succ, opOf_zero, Act.put, List.setIfInBounds_toArray, List.set_cons_zero, List.set_cons_succ]
                      refine wpPath_free (v := .string (st.extract q st.size)) rfl rfl (fun _ => rfl) ?_
                      simp only [opOf_succ, opOf_zero, Act.put, List.setIfInBounds_toArray, List.set_cons_zero, List.set_cons_succ]
                      refine wpPath_free (v := .bool true) rfl rfl (fun _ => rfl) ?_
                      simp only [opOf_succ, opOf_zero, Act.put, List.setIfInBounds_toArray, List.set_cons_zero, List.set_cons_succ]
                      refine wpPath_end fun V9 hb_V9 => ?_
                      have T11 := (T10.set i q).onp hb_V9
                      clear T9 T10 hsl
                      go_wp2
                      exact ret_psb (g := w.heap.size + 1) rfl rfl rfl rfl rfl T11.1 ⟨by rw [HR.out]; rfl, T11.2⟩
                · have HFN : Hid (fwd (ltr st) st.size (q + 1) = wS st c) := by have := HF.out; rw [fwd_no hqs (by simp [ltr, hA])] at this; exact this
                  have hb : (kl st false q != 1) = true := by rw [bne_iff_ne]; exact hA
                  generalize kl st false q = A at *
                  clear hA HF
                  go_wp2_with fail
                  refine hle.mono ?_
                  rintro e w' ⟨rfl, rfl⟩
                  clear hle
                  go_wp2
                  go_roundw
                  case rel => exact ⟨q + 1, by omega, by omega, by go_num, HFN, by first | rfl | trivial⟩
                  case measure => simp [RowKit.intOf]; omega
              · obtain rfl : q = st.size := by omega
                have HR := Lib.hid (wdR_no (c := c) HPL.out.2 (show wS st c = st.size by rw [← HF.out, fwd_end (Nat.le_refl _)]))
                clear HF p0 p1
                have p0 := T2.pos.c0
                have p1 := T2.pos.c1
                have a0 := T2.ps.c0
                have a1 := T2.ps.c1
                have za := fun k => frozen_of_row _ _ k _ _ T2.ps
                go_wp2
                exact ret_psb (g := w.heap.size + 1) rfl rfl rfl rfl rfl (T2.set 0 0).ps ⟨by rw [HR.out]; rfl, (T2.set 0 0).below⟩
        · have HS0 := Lib.hid (back_end hcz hkc HI.out (.inr (.inr (.inl (decide_eq_false hA)))))
          have hb : (kl st false k == 1) = false := by rw [beq_eq_false_iff_ne]; exact hA
          generalize kl st false k = A at *
          clear hA HI
          go_wp2_with fail
          refine hle.mono ?_
          rintro e w' ⟨rfl, rfl⟩
          clear hle
          go_wp2
          clear hb
          go_loopw [8] (fun u wr => ∃ q : Nat, k ≤ q ∧ q ≤ st.size ∧ u = .int .i64 q ∧ Hid (fwd (ltr st) st.size q = wS st c) ∧ w2 = wr) (fun u _ => st.size - (RowKit.intOf u).toNat)
          case atStart => exact ⟨k, Nat.le_refl _, by omega, rfl, HS0.out, rfl⟩
          case round =>
            obtain ⟨q, hcq, hqz, rfl, HF, rfl⟩ := hrel
            clear HS0
            by_cases hqs : q < st.size
            · have hle := of5_at st q (by omega) w2
              by_cases hA : kl st false q = 1
              · have hws : wS st c = q := by rw [← HF.out, fwd_yes (by simp [ltr, hA])]
                have HWD := Lib.hid (wdR_yes HPL.out.1 HPL.out.2 hws hqs)
                have HE0 := Lib.hid (wS_end hcz hws hqs)
                have dq : decide (st.size ≤ q) = false := decide_eq_false (by omega)
                have dq2 : decide ((st.size : Int) ≤ (q : Int)) = false := decide_eq_false (by omega)
                rw [hA] at hle
                clear hA hws HF
                go_wp2_with fail
                refine hle.mono ?_
                rintro e w' ⟨rfl, rfl⟩
                clear hle
                go_wp2
                go_loopw [9] (fun u wr => ∃ v : Nat, q ≤ v ∧ v ≤ st.size ∧ u = .int .i64 v ∧ Hid (fwd (fun j => !ltr st j) st.size v = wE st c) ∧ w2 = wr) (fun u _ => st.size - (RowKit.intOf u).toNat)
                case atStart => exact ⟨q, Nat.le_refl _, by omega, rfl, HE0.out, rfl⟩
                case round =>
                  obtain ⟨E, hkE, hEz, rfl, HEK, rfl⟩ := hrel
                  clear HE0
                  have a0 := T2.ps.c0
                  have a1 := T2.ps.c1
                  have za := fun k => frozen_of_row _ _ k _ _ T2.ps
                  by_cases hEs : E < st.size
                  · have hle := of5_at st E (by omega) w2
                    by_cases hA : kl st false E = 1
                    · have HEN : Hid (fwd (fun j => !ltr st j) st.size (E + 1) = wE st c) := by
                        have := HEK.out; rw [fwd_no (f := fun j => !ltr st j) hEs (by simp [ltr, hA])] at this; exact this
                      rw [hA] at hle
                      clear hA HEK
                      go_wp2_with fail
                      refine hle.mono ?_
                      rintro e w' ⟨rfl, rfl⟩
                      clear hle
                      go_wp2
                      go_roundw
                      case rel => exact ⟨E + 1, by omega, by omega, by go_num, HEN, by first | rfl | trivial⟩
                      case measure => simp [RowKit.intOf]; omega
                    · have HE : Hid (wE st c = E) := by rw [← HEK.out]; exact fwd_yes (f := fun j => !ltr st j) (by simp [ltr, hA])
                      have hb : (kl st false E == 1) = false := by rw [beq_eq_false_iff_ne]; exact hA
                      generalize kl st false E = A at *
                      clear hA HEK
                      go_wp2_with fail
                      refine hle.mono ?_
                      rintro e w' ⟨rfl, rfl⟩
                      clear hle
                      have HR := Lib.hid (show wdR ls i c = ⟨i, q, st.extract q E, true⟩ from by rw [HWD.out, HE.out])
                      have hqE : q ≤ E := by omega
                      have T9 := T2
                      have F_p0 := fun (C : World → Prop) (hC : Grows w2 C) (y : In C) => hC.cell T9.pos.c0 y
                      have hsl := fun W => run_cut st q E (by omega) (by omega) W
                      clear p0 p1 a0 a1 za
                      go_wp2_with fail
                      refine wp_region_seg [0, 1, 2, 3] [(4, 2), (5, 2), (6, 2), (7, 2), (8, 3), (9, 2), (10, 2)] (by kernel_rfl) (by kernel_rfl) 87 rfl (by kernel_rfl) ?_
                      simp only [List.map_cons, List.map_nil, opOf_succ, opOf_zero]
                      apply Exists.intro
                      refine ⟨fun C hC => ?_, ?_⟩
                      · haveI hI := hC.one
                        have f_p0 := F_p0 C hC
                        repeat (go_big_quiet_step (fail))
                        exact wpQuiet_nil rfl
                      clear F_p0
                      refine wpPath_free (v := .string st) rfl rfl (fun _ => rfl) ?_
                      simp only [opOf_succ, opOf_zero, Act.put, List.setIfInBounds_toArray, List.set_cons_zero, List.set_cons_succ]
                      refine wpPath_free (v := .int .i64 ((q : Nat) : Int)) rfl rfl (fun _ => rfl) ?_
                      simp only [opOf_succ, opOf_zero, Act.put, List.setIfInBounds_toArray, List.set_cons_zero, List.set_cons_succ]
                      refine wpPath_free (v := .int .i64 ((E : Nat) : Int)) rfl rfl (fun _ => rfl) ?_
                      simp only [opOf_succ, opOf_zero, Act.put, List.setIfInBounds_toArray, List.set_cons_zero, List.set_cons_succ]
                      refine wpPath_free (v := .string (st.extract q E)) rfl rfl hsl ?_
                      simp only [opOf_succ, opOf_zero, Act.put, List.setIfInBounds_toArray, List.set_cons_zero, List.set_cons_succ]
                      refine wpPath_store rfl fun w00 hb_w00 => ?_
                      have T10 := T9.on hb_w00
                      refine ⟨_, rfl, run_store_pos T10.ps, ?_⟩
                      simp only [opOf_succ, opOf_zero, Act.put, List.setIfInBounds_toArray, List.set_cons_zero, List.set_cons_succ]
                      refine wpPath_free (v := .string (st.extract q E)) rfl rfl (fun _ => rfl) ?_
                      simp only [opOf_succ, opOf_zero, Act.put, List.setIfInBounds_toArray, List.set_cons_zero, List.set_cons_succ]
                      refine wpPath_free (v := .bool true) rfl rfl (fun _ => rfl) ?_
                      simp only [opOf_succ, opOf_zero, Act.put, List.setIfInBounds_toArray, List.set_cons_zero, List.set_cons_succ]
                      refine wpPath_end fun V9 hb_V9 => ?_
                      have T11 := (T10.set i q).onp hb_V9
                      clear T9 T10 hsl
                      go_wp2
                      exact ret_psb (g := w.heap.size + 1) rfl rfl rfl rfl rfl T11.1 ⟨by rw [HR.out]; rfl, T11.2⟩
                  · obtain rfl : E = st.size := by omega
                    have HE : Hid (wE st c = st.size) := by rw [← HEK.out]; exact fwd_end (Nat.le_refl _)
                    clear HEK
                    have HR := Lib.hid (show wdR ls i c = ⟨i, q, st.extract q st.size, true⟩ from by rw [HWD.out, HE.out])
                    have hqE : q ≤ st.size := by omega
                    have T9 := T2
                    have F_p0 := fun (C : World → Prop) (hC : Grows w2 C) (y : In C) => hC.cell T9.pos.c0 y
                    have hsl := fun W => run_cut st q st.size (by omega) (by omega) W
                    clear p0 p1 a0 a1 za
                    go_wp2_with fail
                    refine wp_region_seg [0, 1, 2, 3] [(4, 2), (5, 2), (6, 2), (7, 2), (8, 3), (9, 2), (10, 2)] (by kernel_rfl) (by kernel_rfl) 87 rfl (by kernel_rfl) ?_
                    simp only [List.map_cons, List.map_nil, opOf_succ, opOf_zero]
                    apply Exists.intro
                    refine ⟨fun C hC => ?_, ?_⟩
                    · haveI hI := hC.one
                      have f_p0 := F_p0 C hC
                      repeat (go_big_quiet_step (fail))
                      exact wpQuiet_nil rfl
                    clear F_p0
                    refine wpPath_free (v := .string st) rfl rfl (fun _ => rfl) ?_
                    simp only [opOf_succ, opOf_zero, Act.put, List.setIfInBounds_toArray, List.set_cons_zero, List.set_cons_succ]
                    refine wpPath_free (v := .int .i64 ((q : Nat) : Int)) rfl rfl (fun _ => rfl) ?_
                    simp only [opOf_succ, opOf_zero, Act.put, List.setIfInBounds_toArray, List.set_cons_zero, List.set_cons_succ]
                    refine wpPath_free (v := .int .i64 ((st.size : Nat) : Int)) rfl rfl (fun _ => rfl) ?_
                    simp only [opOf_succ, opOf_zero, Act.put, List.setIfInBounds_toArray, List.set_cons_zero, List.set_cons_succ]
                    refine wpPath_free (v := .string (st.extract q st.size)) rfl rfl hsl ?_
                    simp only [opOf_succ, opOf_zero, Act.put, List.setIfInBounds_toArray, List.set_cons_zero, List.set_cons_succ]
                    refine wpPath_store rfl fun w00 hb_w00 => ?_
                    have T10 := T9.on hb_w00
                    refine ⟨_, rfl, run_store_pos T10.ps, ?_⟩
                    simp only [opOf_succ, opOf_zero, Act.put, List.setIfInBounds_toArray, List.set_cons_zero, List.set_cons_succ]
                    refine wpPath_free (v := .string (st.extract q st.size)) rfl rfl (fun _ => rfl) ?_
                    simp only [opOf_succ, opOf_zero, Act.put, List.setIfInBounds_toArray, List.set_cons_zero, List.set_cons_succ]
                    refine wpPath_free (v := .bool true) rfl rfl (fun _ => rfl) ?_
                    simp only [opOf_succ, opOf_zero, Act.put, List.setIfInBounds_toArray, List.set_cons_zero, List.set_cons_succ]
                    refine wpPath_end fun V9 hb_V9 => ?_
                    have T11 := (T10.set i q).onp hb_V9
                    clear T9 T10 hsl
                    go_wp2
                    exact ret_psb (g := w.heap.size + 1) rfl rfl rfl rfl rfl T11.1 ⟨by rw [HR.out]; rfl, T11.2⟩
              · have HFN : Hid (fwd (ltr st) st.size (q + 1) = wS st c) := by have := HF.out; rw [fwd_no hqs (by simp [ltr, hA])] at this; exact this
                have hb : (kl st false q != 1) = true := by rw [bne_iff_ne]; exact hA
                generalize kl st false q = A at *
                clear hA HF
                go_wp2_with fail
                refine hle.mono ?_
                rintro e w' ⟨rfl, rfl⟩
                clear hle
                go_wp2
                go_roundw
                case rel => exact ⟨q + 1, by omega, by omega, by go_num, HFN, by first | rfl | trivial⟩
                case measure => simp [RowKit.intOf]; omega
            · obtain rfl : q = st.size := by omega
              have HR := Lib.hid (wdR_no (c := c) HPL.out.2 (show wS st c = st.size by rw [← HF.out, fwd_end (Nat.le_refl _)]))
              clear HF p0 p1
              have p0 := T2.pos.c0
              have p1 := T2.pos.c1
              have a0 := T2.ps.c0
              have a1 := T2.ps.c1
              have za := fun k => frozen_of_row _ _ k _ _ T2.ps
              go_wp2
              exact ret_psb (g := w.heap.size + 1) rfl rfl rfl rfl rfl (T2.set 0 0).ps ⟨by rw [HR.out]; rfl, (T2.set 0 0).below⟩
      · have HS0 := Lib.hid (back_end hcz hkc HI.out (.inr (.inl (by omega))))
        clear HI
        go_wp2
        go_loopw [8] (fun u wr => ∃ q : Nat, k ≤ q ∧ q ≤ st.size ∧ u = .int .i64 q ∧ Hid (fwd (ltr st) st.size q = wS st c) ∧ w2 = wr) (fun u _ => st.size - (RowKit.intOf u).toNat)
        case atStart => exact ⟨k, Nat.le_refl _, by omega, rfl, HS0.out, rfl⟩
        case round =>
          obtain ⟨q, hcq, hqz, rfl, HF, rfl⟩ := hrel
          clear HS0
          by_cases hqs : q < st.size
          · exact absurd hqs (by omega)
          · obtain rfl : q = st.size := by omega
            have HR := Lib.hid (wdR_no (c := c) HPL.out.2 (show wS st c = st.size by rw [← HF.out, fwd_end (Nat.le_refl _)]))
            clear HF p0 p1
            have p0 := T2.pos.c0
            have p1 := T2.pos.c1
            have a0 := T2.ps.c0
            have a1 := T2.ps.c1
            have za := fun k => frozen_of_row _ _ k _ _ T2.ps
            go_wp2
            exact ret_psb (g := w.heap.size + 1) rfl rfl rfl rfl rfl (T2.set 0 0).ps ⟨by rw [HR.out]; rfl, (T2.set 0 0).below⟩
end Go.Proofs.Ythlneojhkhhmbaa.Fd
