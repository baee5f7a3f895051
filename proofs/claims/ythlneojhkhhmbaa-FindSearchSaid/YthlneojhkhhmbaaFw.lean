/-
  Word: the package's and the document's.
-/
import Derived.Test.YthlneojhkhhmbaaFg
import Derived.Test.YthlneojhkhhmbaaMp
set_option linter.unusedVariables false
set_option linter.unusedSimpArgs false
set_option maxRecDepth 100000
namespace Go.Proofs.Ythlneojhkhhmbaa.Fd
open Go Go.RowKit Go.Proofs.Ythlneojhkhhmbaa.Vk Go.Proofs.Ythlneojhkhhmbaa.Str Go.Proofs.Ythlneojhkhhmbaa.Ln Go.Proofs.Ythlneojhkhhmbaa.Cl Go.Proofs.Ythlneojhkhhmbaa.Mv Go.Proofs.Ythlneojhkhhmbaa.Wd Go.Shelf
attribute [local go_sem] Oper.semAt_some

/-- What Word answers. -/
structure W3 where
  l : Int
  c : Int
  s : ByteArray
  ok : Bool
abbrev W3.v (r : W3) : Value := .tuple #[.agg #[.int .i64 r.l, .int .i64 r.c], .string r.s, .bool r.ok]
def W3.no : W3 := ⟨0, 0, ⟨#[]⟩, false⟩
def wdR (ls : List ByteArray) (l c : Int) : W3 :=
  if Plc ls l c ∧ wF (lineAt ls l.toNat) c.toNat < (lineAt ls l.toNat).size then ⟨l, wB (lineAt ls l.toNat) c.toNat, (lineAt ls l.toNat).extract (wB (lineAt ls l.toNat) c.toNat) (wE (lineAt ls l.toNat) c.toNat), true⟩ else W3.no
/-- A place, a text and a bool handed back. -/
theorem results_psb {fn : Func} {p q u : Tmp} (h : fn.results = #[.cell p 27, .tmp q, .tmp u]) (tmps : Array Value) (w : World) (g : Nat) (l c : Int) (v v2 : Value)
    (hp : tmps.getD p undef = .pointer (some ⟨g, 0, none⟩)) (hq : tmps.getD q undef = v) (hu : tmps.getD u undef = v2) (hg : PosAt w g l c) :
    (results fn tmps).run Try.prog w = .ok (.tuple #[.agg #[.int .i64 l, .int .i64 c], v, v2]) w := by
  have hp' : tmps[p]?.getD undef = .pointer (some ⟨g, 0, none⟩) := by simpa using hp
  have hq' : tmps[q]?.getD undef = v := by simpa using hq
  have hu' : tmps[u]?.getD undef = v2 := by simpa using hu
  have h0 := hg.c0
  have h1 := hg.c1
  clear hg
  simp only [results, h]
  go_simp
theorem ret_psb {fn : Func} {p q u : Tmp} {a : Act} {w : World} {g : Nat} {l c : Int} {v v2 : Value} {Q : Ending → World → Prop} (hr : fn.results = #[.cell p 27, .tmp q, .tmp u]) (hp : a.tmps.getD p undef = .pointer (some ⟨g, 0, none⟩)) (hq : a.tmps.getD q undef = v) (hu : a.tmps.getD u undef = v2) (hd : a.defers = [])
    (hg : PosAt w g l c) (h : Q (.returned (.tuple #[.agg #[.int .i64 l, .int .i64 c], v, v2])) w) : bodyPost Try.prog fn Q Exit.ret a w :=
  bodyPost_ret (results_psb hr _ _ g _ _ _ _ hp hq hu hg) hd h
/-- A text is cut. -/
theorem run_cut (s : ByteArray) (a b : Nat) (h : a ≤ b) (hb : b ≤ s.size) (W : World) : (do let v ← Instr.sliceAt 9 (.string s) (some (.int .i64 (a : Int))) (some (.int .i64 (b : Int))) none; pure (Next.value v) : Sem Next).run Try.prog W = .ok (.value (.string (s.extract a b))) W := by
  have h0 : (a : Int) ≤ (b : Int) := by omega
  have h1 : (b : Int) ≤ (s.size : Int) := by omega
  go_simp
/-- The two variables of Word: the place, the answer's place. -/
structure Tp (w W : World) (l c a b : Int) : Prop where
  below : Below w.heap.size w W
  size : w.heap.size + 2 ≤ W.heap.size
  pos : PosAt W w.heap.size l c
  ps : PosAt W (w.heap.size + 1) a b
theorem Tp.new (w : World) (l c : Int) : Tp w ((w.alloc (.cells #[.int .i64 l, .int .i64 c] 27)).alloc (.cells #[.int .i64 0, .int .i64 0] 27)) l c 0 0 :=
  ⟨two_below _ _ _, by simp, (PosAt.new w l c).below ((Below.refl _ _).alloc (Nat.le_refl _) _) (by simp), two_new w _ _⟩
theorem Tp.on {w W W' : World} {l c a b : Int} (h : Tp w W l c a b) (hb : Below W.heap.size W W') : Tp w W' l c a b :=
  ⟨h.below.trans (hb.mono h.below.size), Nat.le_trans h.size hb.size, h.pos.below hb h.pos.lt, h.ps.below hb h.ps.lt⟩
theorem Tp.set {w W : World} {l c a b : Int} (h : Tp w W l c a b) (x y : Int) : Tp w ((W.setCell ⟨w.heap.size + 1, 0, none⟩ (.int .i64 x)).setCell ⟨w.heap.size + 1, 1, none⟩ (.int .i64 y)) l c x y :=
  ⟨(h.below.setCell (p := ⟨w.heap.size + 1, 0, none⟩) (Nat.le_succ _) _).setCell (p := ⟨w.heap.size + 1, 1, none⟩) (Nat.le_succ _) _, by simpa using h.size, (h.pos.other (by omega)).other (by omega), So.set2 h.ps⟩
theorem Tp.onp {w W W' : World} {l c a b : Int} (h : Tp w W l c a b) (hb : Below W.heap.size W W') : PosAt W' (w.heap.size + 1) a b ∧ Below w.heap.size w W' := ⟨(h.on hb).ps, (h.on hb).below⟩

set_option maxHeartbeats 8000000 in
theorem word_any (a : Option Addr) (n c' : Nat) (ls : List ByteArray) (l cc : Int) (w : World) (h : Ss w a n c' ls) (hs : ∀ s ∈ ls, s.size ≤ 140737488355328) :
    Calls Try.prog 19 #[.slice a n c', .agg #[.int .i64 l, .int .i64 cc]] w fun e w' => e = .returned (wdR ls l cc).v ∧ Below w.heap.size w w' := by
  have hlen := h.length
  have hn := h.le63
  obtain ⟨X, hX⟩ : ∃ X, X = ((w.alloc (.cells #[.int .i64 l, .int .i64 cc] 27)).alloc (.cells #[.int .i64 0, .int .i64 0] 27)) := ⟨_, rfl⟩
  have hT : Tp w X l cc 0 0 := by rw [hX]; exact Tp.new w l cc
  have HX := Lib.hid hX
  have h1 := inside_any a n c' ls l cc X (SrcV.below h hT.below) hs
  have p0 := hT.pos.c0
  have p1 := hT.pos.c1
  by_cases hp : Plc ls l cc
  rotate_left
  · have hr : wdR ls l cc = W3.no := if_neg fun hh => hp hh.1
    rw [hr]
    rw [decide_eq_false hp] at h1
    clear hr hX hp h
    go_enter Try.func19, Try.ntmps19
    go_wp2_with fail
    rw [← HX.out]
    refine h1.mono ?_
    rintro e w2 ⟨rfl, hb2⟩
    have T2 := hT.on hb2
    clear p0 p1 h1 hT hb2
    have p0 := T2.pos.c0
    have p1 := T2.pos.c1
    have a0 := T2.ps.c0
    have a1 := T2.ps.c1
    have za := fun k => frozen_of_row _ _ k _ _ T2.ps
    go_wp2
    exact ret_psb (g := w.heap.size + 1) rfl rfl rfl rfl rfl (T2.set 0 0).ps ⟨rfl, (T2.set 0 0).below⟩
  obtain ⟨i, c, rfl, rfl, hi, hcz⟩ := hp.nat
  rw [decide_eq_true hp] at h1
  obtain ⟨ba, o, rfl, hcx, hnc, _⟩ := h.read i (by omega)
  have hlt := lineAt_get hi
  have hstz := hs (ls[i]'hi) (List.getElem_mem hi)
  rw [← hlt] at hcx hstz
  obtain ⟨st, hst⟩ : ∃ st, st = lineAt ls i := ⟨_, rfl⟩
  rw [← hst] at hcx hstz hcz
  have hin : i < n := by omega
  have HPL := Lib.hid (And.intro hp hst)
  clear hX hp h hlt hst hs
  go_enter Try.func19, Try.ntmps19
  go_wp2_with fail
  rw [← HX.out]
  refine h1.mono ?_
  rintro e w2 ⟨rfl, hb2⟩
  have T2 := hT.on hb2
  have c3 := cell_later T2.below hcx
  clear p0 p1 h1 hT hb2 hcx
  have p0 := T2.pos.c0
  have p1 := T2.pos.c1
  go_wp2
  clear c3
  go_loopw [8] (fun u wr => ∃ k : Nat, c ≤ k ∧ k ≤ st.size ∧ u = .int .i64 k ∧ Hid (fwd (ltr st) st.size k = wF st c) ∧ w2 = wr) (fun u _ => st.size - (RowKit.intOf u).toNat)
  case atStart => exact ⟨c, Nat.le_refl _, hcz, rfl, rfl, rfl⟩
  case round =>
    obtain ⟨k, hck, hkz, rfl, HF, rfl⟩ := hrel
    by_cases hks : k < st.size
    · have hle := lettered_at st k hks w2
      cases hl : ltr st k
      · rw [hl] at hle
        have HFN : Hid (fwd (ltr st) st.size (k + 1) = wF st c) := by have := HF.out; rw [fwd_no hks hl] at this; exact this
        clear hl
        go_wp2_with fail
        refine hle.mono ?_
        rintro e w' ⟨rfl, rfl⟩
        clear hle
        go_wp2
        go_roundw
        case rel => exact ⟨k + 1, by omega, by omega, by go_num, HFN, by first | rfl | trivial⟩
        case measure => simp [RowKit.intOf]; omega
      · rw [hl] at hle
        have hwf : wF st c = k := by rw [← HF.out, fwd_yes hl]
        have HWD : Hid (wdR ls i c = ⟨i, wB st c, st.extract (wB st c) (wE st c), true⟩) := by
          unfold wdR
          rw [Int.toNat_natCast, Int.toNat_natCast, ← HPL.out.2, if_pos ⟨HPL.out.1, by omega⟩]
          exact rfl
        have HB0 : Hid (bwd (ltr st) k = wB st c) := by show _ = bwd _ (wF st c); rw [hwf]
        have HE0 : Hid (fwd (fun j => !ltr st j) st.size k = wE st c) := by show _ = fwd _ _ (wF st c); rw [hwf]
        have hkn : ((k : Int) == (st.size : Int)) = false := by rw [beq_eq_false_iff_ne]; omega
        clear hl hwf HF
        go_wp2_with fail
        refine hle.mono ?_
        rintro e w' ⟨rfl, rfl⟩
        clear hle
        go_wp2
        go_loopw [9] (fun u wr => ∃ q : Nat, k ≤ q ∧ q ≤ st.size ∧ u = .int .i64 q ∧ Hid (fwd (fun j => !ltr st j) st.size q = wE st c) ∧ w2 = wr) (fun u _ => st.size - (RowKit.intOf u).toNat)
        case atStart => exact ⟨k, Nat.le_refl _, by omega, rfl, HE0, rfl⟩
        case round =>
          obtain ⟨E, hkE, hEz, rfl, HEK, rfl⟩ := hrel
          clear HE0
          have a0 := T2.ps.c0
          have a1 := T2.ps.c1
          have za := fun k => frozen_of_row _ _ k _ _ T2.ps
          by_cases hEs : E < st.size
          · have hle := lettered_at st E hEs w2
            cases hl : ltr st E
            · rw [hl] at hle
              have HE : Hid (wE st c = E) := by rw [← HEK.out]; exact fwd_yes (f := fun j => !ltr st j) (by simp [hl])
              clear hl HEK
              go_wp2_with fail
              refine hle.mono ?_
              rintro e w' ⟨rfl, rfl⟩
              clear hle
              go_wp2
              go_loopw [8] (fun u wr => ∃ v : Nat, v ≤ k ∧ u = .int .i64 v ∧ Hid (bwd (ltr st) v = wB st c) ∧ w2 = wr) (fun u _ => (RowKit.intOf u).toNat)
              case atStart => exact ⟨k, Nat.le_refl _, rfl, HB0.out, rfl⟩
              case round =>
                obtain ⟨v, hkf, rfl, HBK, rfl⟩ := hrel
                cases v with
                | zero =>
                  have HBB : wB st c = 0 := by rw [← HBK.out]; rfl
                  have HR := Lib.hid (show wdR ls i c = ⟨i, 0, st.extract 0 E, true⟩ from by rw [HWD.out, HBB, HE.out]; rfl)
                  clear HBB
                  have T9 := T2
                  have F_p0 := fun (C : World → Prop) (hC : Grows w2 C) (y : In C) => hC.cell T9.pos.c0 y
                  have hsl := fun W => run_cut st 0 E (by omega) (by omega) W
                  clear p0 p1 a0 a1 za
                  go_wp2_with fail
                  refine wp_region_seg [0, 1, 2, 3] [(4, 2), (5, 2), (6, 2), (7, 2), (8, 3), (9, 2), (10, 2)] (by kernel_rfl) (by kernel_rfl) 72 rfl (by kernel_rfl) ?_
                  simp only [List.map_cons, List.map_nil, opOf_succ, opOf_zero]
                  apply Exists.intro
                  refine ⟨fun C hC => ?_, ?_⟩
                  · haveI hI := hC.one
                    have f_p0 := F_p0 C hC
                    repeat (go_big_quiet_step (fail))
                    exact wpQuiet_nil rfl
                  clear F_p0
                  refine wpPath_free (v := .string st) rfl rfl (fun _ => rfl) ?_
                  simp only [opOf_succ, opOf_zero, Act.put, List.setIfInBounds_toArray, List.set_cons_zero, List.set_cons_succ]
                  refine wpPath_free (v := .int .i64 ((0 : Nat) : Int)) rfl rfl (fun _ => rfl) ?_
                  simp only [opOf_succ, opOf_zero, Act.put, List.setIfInBounds_toArray, List.set_cons_zero, List.set_cons_succ]
                  refine wpPath_free (v := .int .i64 ((E : Nat) : Int)) rfl rfl (fun _ => rfl) ?_
                  simp only [opOf_succ, opOf_zero, Act.put, List.setIfInBounds_toArray, List.set_cons_zero, List.set_cons_succ]
                  refine wpPath_free (v := .string (st.extract 0 E)) rfl rfl hsl ?_
                  simp only [opOf_succ, opOf_zero, Act.put, List.setIfInBounds_toArray, List.set_cons_zero, List.set_cons_succ]
                  refine wpPath_store rfl fun w00 hb_w00 => ?_
                  have T10 := T9.on hb_w00
                  refine ⟨_, rfl, run_store_pos T10.ps, ?_⟩
                  simp only [opOf_succ, opOf_zero, Act.put, List.setIfInBounds_toArray, List.set_cons_zero, List.set_cons_succ]
                  refine wpPath_free (v := .string (st.extract 0 E)) rfl rfl (fun _ => rfl) ?_
                  simp only [opOf_succ, opOf_zero, Act.put, List.setIfInBounds_toArray, List.set_cons_zero, List.set_cons_succ]
                  refine wpPath_free (v := .bool true) rfl rfl (fun _ => rfl) ?_
                  simp only [opOf_succ, opOf_zero, Act.put, List.setIfInBounds_toArray, List.set_cons_zero, List.set_cons_succ]
                  refine wpPath_end fun V9 hb_V9 => ?_
                  have T11 := (T10.set i 0).onp hb_V9
                  clear T9 T10 hsl
                  go_wp2
                  exact ret_psb (g := w.heap.size + 1) rfl rfl rfl rfl rfl T11.1 ⟨by rw [HR.out]; rfl, T11.2⟩
                | succ v =>
                  have hw1 : IntKind.i64.wrap (((v + 1 : Nat) : Int) - 1) = (v : Int) := by rw [IntKind.wrap_i64]; omega
                  obtain ⟨v1, hv1⟩ : ∃ v1, v1 = v + 1 := ⟨_, rfl⟩
                  have hks : v < st.size := by omega
                  have hle := lettered_at st v hks w2
                  have dk : decide (0 < v1) = true := decide_eq_true (by omega)
                  have dk2 : decide ((0 : Int) < (v1 : Int)) = true := decide_eq_true (by omega)
                  rw [← hv1] at hw1 HBK ⊢
                  have HV1 := Lib.hid hv1
                  clear hv1
                  cases hl : ltr st v
                  · rw [hl] at hle
                    have HBB : wB st c = v1 := by rw [← HBK.out, HV1.out]; exact bwd_no hl
                    have HR := Lib.hid (show wdR ls i c = ⟨i, v1, st.extract v1 E, true⟩ from by rw [HWD.out, HBB, HE.out])
                    clear HBB hl
                    go_wp2_with fail
                    refine hle.mono ?_
                    rintro e w' ⟨rfl, rfl⟩
                    clear hle
                    have hv1E : v1 ≤ E := by have := HV1.out; omega
                    have T9 := T2
                    have F_p0 := fun (C : World → Prop) (hC : Grows w2 C) (y : In C) => hC.cell T9.pos.c0 y
                    have hsl := fun W => run_cut st v1 E (by omega) (by omega) W
                    clear p0 p1 a0 a1 za
                    go_wp2_with fail
                    refine wp_region_seg [0, 1, 2, 3] [(4, 2), (5, 2), (6, 2), (7, 2), (8, 3), (9, 2), (10, 2)] (by kernel_rfl) (by kernel_rfl) 72 rfl (by kernel_rfl) ?_
                    simp only [List.map_cons, List.map_nil, opOf_succ, opOf_zero]
                    apply Exists.intro
                    refine ⟨fun C hC => ?_, ?_⟩
                    · haveI hI := hC.one
                      have f_p0 := F_p0 C hC
                      repeat (go_big_quiet_step (fail))
                      exact wpQuiet_nil rfl
                    clear F_p0
                    refine wpPath_free (v := .string st) rfl rfl (fun _ => rfl) ?_
                    simp only [opOf_succ, opOf_zero, Act.put, List.setIfInBounds_toArray, List.set_cons_zero, List.set_cons_succ]
                    refine wpPath_free (v := .int .i64 ((v1 : Nat) : Int)) rfl rfl (fun _ => rfl) ?_
                    simp only [opOf_succ, opOf_zero, Act.put, List.setIfInBounds_toArray, List.set_cons_zero, List.set_cons_succ]
                    refine wpPath_free (v := .int .i64 ((E : Nat) : Int)) rfl rfl (fun _ => rfl) ?_
                    simp only [opOf_succ, opOf_zero, Act.put, List.setIfInBounds_toArray, List.set_cons_zero, List.set_cons_succ]
                    refine wpPath_free (v := .string (st.extract v1 E)) rfl rfl hsl ?_
                    simp only [opOf_succ, opOf_zero, Act.put, List.setIfInBounds_toArray, List.set_cons_zero, List.set_cons_succ]
                    refine wpPath_store rfl fun w00 hb_w00 => ?_
                    have T10 := T9.on hb_w00
                    refine ⟨_, rfl, run_store_pos T10.ps, ?_⟩
                    simp only [opOf_succ, opOf_zero, Act.put, List.setIfInBounds_toArray, List.set_cons_zero, List.set_cons_succ]
                    refine wpPath_free (v := .string (st.extract v1 E)) rfl rfl (fun _ => rfl) ?_
                    simp only [opOf_succ, opOf_zero, Act.put, List.setIfInBounds_toArray, List.set_cons_zero, List.set_cons_succ]
                    refine wpPath_free (v := .bool true) rfl rfl (fun _ => rfl) ?_
                    simp only [opOf_succ, opOf_zero, Act.put, List.setIfInBounds_toArray, List.set_cons_zero, List.set_cons_succ]
                    refine wpPath_end fun V9 hb_V9 => ?_
                    have T11 := (T10.set i v1).onp hb_V9
                    clear T9 T10 hsl
                    go_wp2
                    exact ret_psb (g := w.heap.size + 1) rfl rfl rfl rfl rfl T11.1 ⟨by rw [HR.out]; rfl, T11.2⟩
                  · rw [hl] at hle
                    have HBN : Hid (bwd (ltr st) v = wB st c) := by have := HBK.out; rw [HV1.out, bwd_yes hl] at this; exact this
                    clear hl
                    go_wp2_with fail
                    refine hle.mono ?_
                    rintro e w' ⟨rfl, rfl⟩
                    clear hle
                    go_wp2
                    go_roundw
                    case rel => exact ⟨v, by have := HV1.out; omega, by go_num, HBN, by first | rfl | trivial⟩
                    case measure => (have := HV1.out; simp [RowKit.intOf]; omega)
            · rw [hl] at hle
              have HEN : Hid (fwd (fun j => !ltr st j) st.size (E + 1) = wE st c) := by
                have := HEK.out; rw [fwd_no (f := fun j => !ltr st j) hEs (by simp [hl])] at this; exact this
              clear hl
              go_wp2_with fail
              refine hle.mono ?_
              rintro e w' ⟨rfl, rfl⟩
              clear hle
              go_wp2
              go_roundw
              case rel => exact ⟨E + 1, by omega, by omega, by go_num, HEN, by first | rfl | trivial⟩
              case measure => simp [RowKit.intOf]; omega
          · obtain rfl : E = st.size := by omega
            have HE : Hid (wE st c = st.size) := by rw [← HEK.out]; exact fwd_end (Nat.le_refl _)
            clear HEK hkn
            go_wp2
            go_loopw [8] (fun u wr => ∃ v : Nat, v ≤ k ∧ u = .int .i64 v ∧ Hid (bwd (ltr st) v = wB st c) ∧ w2 = wr) (fun u _ => (RowKit.intOf u).toNat)
            case atStart => exact ⟨k, Nat.le_refl _, rfl, HB0.out, rfl⟩
            case round =>
              obtain ⟨v, hkf, rfl, HBK, rfl⟩ := hrel
              cases v with
              | zero =>
                have HBB : wB st c = 0 := by rw [← HBK.out]; rfl
                have HR := Lib.hid (show wdR ls i c = ⟨i, 0, st.extract 0 st.size, true⟩ from by rw [HWD.out, HBB, HE.out]; rfl)
                clear HBB
                have T9 := T2
                have F_p0 := fun (C : World → Prop) (hC : Grows w2 C) (y : In C) => hC.cell T9.pos.c0 y
                have hsl := fun W => run_cut st 0 st.size (by omega) (by omega) W
                clear p0 p1 a0 a1 za
                go_wp2_with fail
                refine wp_region_seg [0, 1, 2, 3] [(4, 2), (5, 2), (6, 2), (7, 2), (8, 3), (9, 2), (10, 2)] (by kernel_rfl) (by kernel_rfl) 72 rfl (by kernel_rfl) ?_
                simp only [List.map_cons, List.map_nil, opOf_succ, opOf_zero]
                apply Exists.intro
                refine ⟨fun C hC => ?_, ?_⟩
                · haveI hI := hC.one
                  have f_p0 := F_p0 C hC
                  repeat (go_big_quiet_step (fail))
                  exact wpQuiet_nil rfl
                clear F_p0
                refine wpPath_free (v := .string st) rfl rfl (fun _ => rfl) ?_
                simp only [opOf_succ, opOf_zero, Act.put, List.setIfInBounds_toArray, List.set_cons_zero, List.set_cons_succ]
                refine wpPath_free (v := .int .i64 ((0 : Nat) : Int)) rfl rfl (fun _ => rfl) ?_
                simp only [opOf_succ, opOf_zero, Act.put, List.setIfInBounds_toArray, List.set_cons_zero, List.set_cons_succ]
                refine wpPath_free (v := .int .i64 (st.size : Int)) rfl rfl (fun _ => rfl) ?_
                simp only [opOf_succ, opOf_zero, Act.put, List.setIfInBounds_toArray, List.set_cons_zero, List.set_cons_succ]
                refine wpPath_free (v := .string (st.extract 0 st.size)) rfl rfl hsl ?_
                simp only [opOf_succ, opOf_zero, Act.put, List.setIfInBounds_toArray, List.set_cons_zero, List.set_cons_succ]
                refine wpPath_store rfl fun w00 hb_w00 => ?_
                have T10 := T9.on hb_w00
                refine ⟨_, rfl, run_store_pos T10.ps, ?_⟩
                simp only [opOf_succ, opOf_zero, Act.put, List.setIfInBounds_toArray, List.set_cons_zero, List.set_cons_succ]
                refine wpPath_free (v := .string (st.extract 0 st.size)) rfl rfl (fun _ => rfl) ?_
                simp only [opOf_succ, opOf_zero, Act.put, List.setIfInBounds_toArray, List.set_cons_zero, List.set_cons_succ]
                refine wpPath_free (v := .bool true) rfl rfl (fun _ => rfl) ?_
                simp only [opOf_succ, opOf_zero, Act.put, List.setIfInBounds_toArray, List.set_cons_zero, List.set_cons_succ]
                refine wpPath_end fun V9 hb_V9 => ?_
                have T11 := (T10.set i 0).onp hb_V9
                clear T9 T10 hsl
                go_wp2
                exact ret_psb (g := w.heap.size + 1) rfl rfl rfl rfl rfl T11.1 ⟨by rw [HR.out]; rfl, T11.2⟩
              | succ v =>
                have hw1 : IntKind.i64.wrap (((v + 1 : Nat) : Int) - 1) = (v : Int) := by rw [IntKind.wrap_i64]; omega
                obtain ⟨v1, hv1⟩ : ∃ v1, v1 = v + 1 := ⟨_, rfl⟩
                have hks : v < st.size := by omega
                have hle := lettered_at st v hks w2
                have dk : decide (0 < v1) = true := decide_eq_true (by omega)
                have dk2 : decide ((0 : Int) < (v1 : Int)) = true := decide_eq_true (by omega)
                rw [← hv1] at hw1 HBK ⊢
                have HV1 := Lib.hid hv1
                clear hv1
                cases hl : ltr st v
                · rw [hl] at hle
                  have HBB : wB st c = v1 := by rw [← HBK.out, HV1.out]; exact bwd_no hl
                  have HR := Lib.hid (show wdR ls i c = ⟨i, v1, st.extract v1 st.size, true⟩ from by rw [HWD.out, HBB, HE.out])
                  clear HBB hl
                  go_wp2_with fail
                  refine hle.mono ?_
                  rintro e w' ⟨rfl, rfl⟩
                  clear hle
                  have hv1E : v1 ≤ st.size := by have := HV1.out; omega
                  have T9 := T2
                  have F_p0 := fun (C : World → Prop) (hC : Grows w2 C) (y : In C) => hC.cell T9.pos.c0 y
                  have hsl := fun W => run_cut st v1 st.size (by omega) (by omega) W
                  clear p0 p1 a0 a1 za
                  go_wp2_with fail
                  refine wp_region_seg [0, 1, 2, 3] [(4, 2), (5, 2), (6, 2), (7, 2), (8, 3), (9, 2), (10, 2)] (by kernel_rfl) (by kernel_rfl) 72 rfl (by kernel_rfl) ?_
                  simp only [List.map_cons, List.map_nil, opOf_succ, opOf_zero]
                  apply Exists.intro
                  refine ⟨fun C hC => ?_, ?_⟩
                  · haveI hI := hC.one
                    have f_p0 := F_p0 C hC
                    repeat (go_big_quiet_step (fail))
                    exact wpQuiet_nil rfl
                  clear F_p0
                  refine wpPath_free (v := .string st) rfl rfl (fun _ => rfl) ?_
                  simp only [opOf_succ, opOf_zero, Act.put, List.setIfInBounds_toArray, List.set_cons_zero, List.set_cons_succ]
                  refine wpPath_free (v := .int .i64 ((v1 : Nat) : Int)) rfl rfl (fun _ => rfl) ?_
                  simp only [opOf_succ, opOf_zero, Act.put, List.setIfInBounds_toArray, List.set_cons_zero, List.set_cons_succ]
                  refine wpPath_free (v := .int .i64 (st.size : Int)) rfl rfl (fun _ => rfl) ?_
                  simp only [opOf_succ, opOf_zero, Act.put, List.setIfInBounds_toArray, List.set_cons_zero, List.set_cons_succ]
                  refine wpPath_free (v := .string (st.extract v1 st.size)) rfl rfl hsl ?_
                  simp only [opOf_succ, opOf_zero, Act.put, List.setIfInBounds_toArray, List.set_cons_zero, List.set_cons_succ]
                  refine wpPath_store rfl fun w00 hb_w00 => ?_
                  have T10 := T9.on hb_w00
                  refine ⟨_, rfl, run_store_pos T10.ps, ?_⟩
                  simp only [opOf_succ, opOf_zero, Act.put, List.setIfInBounds_toArray, List.set_cons_zero, List.set_cons_succ]
                  refine wpPath_free (v := .string (st.extract v1 st.size)) rfl rfl (fun _ => rfl) ?_
                  simp only [opOf_succ, opOf_zero, Act.put, List.setIfInBounds_toArray, List.set_cons_zero, List.set_cons_succ]
                  refine wpPath_free (v := .bool true) rfl rfl (fun _ => rfl) ?_
                  simp only [opOf_succ, opOf_zero, Act.put, List.setIfInBounds_toArray, List.set_cons_zero, List.set_cons_succ]
                  refine wpPath_end fun V9 hb_V9 => ?_
                  have T11 := (T10.set i v1).onp hb_V9
                  clear T9 T10 hsl
                  go_wp2
                  exact ret_psb (g := w.heap.size + 1) rfl rfl rfl rfl rfl T11.1 ⟨by rw [HR.out]; rfl, T11.2⟩
                · rw [hl] at hle
                  have HBN : Hid (bwd (ltr st) v = wB st c) := by have := HBK.out; rw [HV1.out, bwd_yes hl] at this; exact this
                  clear hl
                  go_wp2_with fail
                  refine hle.mono ?_
                  rintro e w' ⟨rfl, rfl⟩
                  clear hle
                  go_wp2
                  go_roundw
                  case rel => exact ⟨v, by have := HV1.out; omega, by go_num, HBN, by first | rfl | trivial⟩
                  case measure => (have := HV1.out; simp [RowKit.intOf]; omega)
    · obtain rfl : k = st.size := by omega
      have hwf : wF st c = st.size := by rw [← HF.out, fwd_end (Nat.le_refl _)]
      have HR : Hid (wdR ls i c = W3.no) := by
        unfold wdR
        rw [Int.toNat_natCast, Int.toNat_natCast, ← HPL.out.2, if_neg (by omega)]
        exact rfl
      clear hwf HF p0 p1
      have p0 := T2.pos.c0
      have p1 := T2.pos.c1
      have a0 := T2.ps.c0
      have a1 := T2.ps.c1
      have za := fun k => frozen_of_row _ _ k _ _ T2.ps
      go_wp2
      exact ret_psb (g := w.heap.size + 1) rfl rfl rfl rfl rfl (T2.set 0 0).ps ⟨by rw [HR.out]; rfl, (T2.set 0 0).below⟩
end Go.Proofs.Ythlneojhkhhmbaa.Fd
