/-
  The law BufLimit, walked.
-/
import Derived.Test.YtfllgmgipmmpkaaGreatDoorBw
set_option linter.unusedVariables false
set_option linter.unusedSimpArgs false
set_option maxRecDepth 100000
namespace Go.Proofs.YtfllgmgipmmpkaaGreatDoor.BLim
open Go Go.RowKit Go.Proofs.YtfllgmgipmmpkaaGreatDoor.Vk Go.Proofs.YtfllgmgipmmpkaaGreatDoor.Tm Go.Proofs.YtfllgmgipmmpkaaGreatDoor.Tf Go.Proofs.YtfllgmgipmmpkaaGreatDoor.Bf Go.Proofs.YtfllgmgipmmpkaaGreatDoor.Lm Go.Shelf
attribute [local go_sem] Oper.semAt_some

def zs (k : Nat) : ByteArray := ⟨(List.replicate k (0 : UInt8)).toArray⟩
theorem zs_size (k : Nat) : (zs k).size = k := by rw [zs, of_size]; simp
theorem zs_clean (k : Nat) : NoLf [zs k] := fun s hs => by
  rw [List.mem_singleton.1 hs, zs, of_bytes]
  intro h
  have := List.eq_of_mem_replicate h
  exact absurd this (by decide)
theorem run_zs (k : Nat) (w : World) (hk : k ≤ 1000000) : (convert 37 9 (.slice (some ⟨w.heap.size, 0, none⟩) k k)).run Tryz.prog (w.alloc (.cells (madeCells #[Value.int .u8 0] k) 5)) = .ok (.string (zs k)) (w.alloc (.cells (madeCells #[Value.int .u8 0] k) 5)) := by
  have hown : (w.alloc (.cells (madeCells #[Value.int .u8 0] k) 5)).ownsRow w.heap.size 5 1 (.slice (some ⟨w.heap.size, 0, none⟩) (List.replicate k (0 : UInt8)).length k) (List.replicate k (0 : UInt8)).length (Tb.bcells (List.replicate k (0 : UInt8))) := by
    rw [List.length_replicate]
    refine ⟨by simp [Tb.bcells], .inr ⟨w.heap.size, k, _, rfl, Nat.le_refl _, World.alloc_heap_new w _, Nat.le_refl _, by simp only [maxLen]; omega, by simp [madeCells], ?_⟩⟩
    apply List.ext_getElem?
    intro j
    by_cases hj : j < k
    · simp [madeCells, Tb.bcells, hj, Nat.mod_one]
    · rw [List.getElem?_eq_none (by simp [madeCells]; omega), List.getElem?_eq_none (by simp [Tb.bcells]; omega)]
  have := Tb.conv_own hown
  rw [List.length_replicate] at this
  exact this

theorem nw_one (ls : List ByteArray) (n : Nat) (s : ByteArray) : nw ls n [s] = [s] := by unfold nw lst; simp

set_option maxHeartbeats 2000000 in
theorem walk (a : Option Addr) (n c : Nat) (ls : List ByteArray) (at_ less : Int) (w : World) (hs : Ss w a n c ls) (hsb : ∀ s ∈ ls, s.size ≤ 140737488355328) (hat : (Lit.int .u8 at_).wf = true) (hle : (Lit.int .i8 less).wf = true) (hm : MaxOk w) :
    Calls Tryz.prog 6 #[.slice a n c, .int .u8 at_, .int .i8 less] w fun e w' => e = .returned (.bool true) ∧ Below w.heap.size w w' := by
  have hn63 : n ≤ 9223372036854775807 := by have := hs.2.2.1; unfold maxLen at this; omega
  have hkn := known_any w hm
  have ha2 : 0 ≤ at_ ∧ at_ ≤ 255 := by simpa [Lit.wf, IntKind.min, IntKind.max, IntKind.signed, IntKind.bits] using hat
  have hr2 : -2 ≤ less.tmod 3 ∧ less.tmod 3 ≤ 2 := by
    have h1 := Int.tmod_lt_of_pos less (b := 3) (by omega)
    have h2 := Int.lt_tmod_of_pos less (b := 3) (by omega)
    omega
  go_enter Tryz.func6, Tryz.ntmps6
  go_wp2_with fail
  refine hkn.mono ?_
  rintro e w1 ⟨rfl, hb1⟩
  have htx := text_any a n c ls w1 (SrcV.below hs hb1) hn63 hsb
  have HB1 := Lib.hid hb1
  clear hkn
  go_wp2_with fail
  refine htx.mono ?_
  rintro e w' ⟨q, rfl, rfl, hq⟩
  clear htx
  cases q
  · go_wp2
    go_ret
    exact ⟨rfl, HB1.out⟩
  obtain ⟨hn0, hn40, hj, hcl⟩ := hq rfl
  clear hq hn63
  have hlen := hs.length
  have hne : ls ≠ [] := by rintro rfl; simp at hlen; omega
  have hnew := new_ok a n c ls w1 (SrcV.below hs hb1) (by omega) hcl (by rw [lst_id hne]; omega)
  rw [lst_id hne] at hnew
  clear hb1
  go_wp2_with fail
  refine hnew.mono ?_
  rintro e w2 ⟨b, F, np, rfl, hbuf, hb2⟩
  have hz1 := HB1.out.size
  have hb02 : Below w.heap.size w w2 := HB1.out.trans (hb2.mono hz1)
  obtain ⟨i, hti, hin⟩ : ∃ i : Nat, at_.tmod (n : Int) = (i : Int) ∧ i < n := by
    have h1 := Int.tmod_lt_of_pos at_ (b := (n : Int)) (by omega)
    have h2 := Int.tmod_nonneg (n : Int) ha2.1
    exact ⟨(at_.tmod n).toNat, by omega, by omega⟩
  obtain ⟨sb, so, rfl, hcs, hnc, _⟩ := Ss.read (SrcV.below hs hb02) i (by omega)
  have hz5 : ∀ m, Calls Tryz.prog 11 #[.slice (some ⟨sb, so, none⟩) n c] (w2.drewN m) fun e w' => e = .returned (.int .i64 (jn ls).length) ∧ ∃ k, w' = w2.drewN k := fun m =>
    (size5_any _ n c ls (w2.drewN m) ((SrcV.below hs hb02).fr ((Fr.refl (fun _ => False) w2).drewN m) (by simp)) (by omega) (by omega)).mono fun e w' h => ⟨h.1, m, h.2.symm⟩
  have HBUF := Lib.hid (And.intro hbuf hb2)
  have HB2 := Lib.hid hb02
  have HS := Lib.hid hs
  have hz2 := hb02.size
  have hnx := jn_len_next ls i (by omega)
  have hle2 := jn_len_take ls (i + 1)
  generalize hst : ls[i]'(by omega) = st at *
  obtain ⟨r, hr⟩ : ∃ r, r = less.tmod 3 := ⟨_, rfl⟩
  rw [← hr] at hr2
  obtain ⟨L, hL⟩ : ∃ L : Nat, (L : Int) = 4096 - ((jn ls).length : Int) + st.size + r := ⟨(4096 - ((jn ls).length : Int) + st.size + r).toNat, by omega⟩
  have hw_1 : IntKind.i64.wrap at_ = at_ := by rw [IntKind.wrap_i64]; omega
  have hw_2 : IntKind.i64.wrap (less.tmod 3) = less.tmod 3 := by rw [← hr, IntKind.wrap_i64]; omega
  have hw_3 : IntKind.i64.wrap (4096 - ((jn ls).length : Int)) = 4096 - ((jn ls).length : Int) := by rw [IntKind.wrap_i64]; omega
  have hw_4 : IntKind.i64.wrap (4096 - ((jn ls).length : Int) + st.size) = 4096 - ((jn ls).length : Int) + st.size := by rw [IntKind.wrap_i64]; omega
  have hw_5 : IntKind.i64.wrap (4096 - ((jn ls).length : Int) + st.size + less.tmod 3) = (L : Int) := by rw [← hr, hL, IntKind.wrap_i64]; omega
  have hw_6 : IntKind.i64.wrap (4096 + less.tmod 3) = 4096 + less.tmod 3 := by rw [← hr, IntKind.wrap_i64]; omega
  have HR := Lib.hid hr
  have HL := Lib.hid hL
  have HIN := Lib.hid hin
  clear hbuf hb2 hb02 hs hnew hr hL
  go_wp2
  go_quiet (exact hz5 _)
  obtain ⟨i0, hi0, hz0, hz1', hz2'⟩ := info_parts Tb.infoU
  obtain ⟨W, hW⟩ : ∃ W, W = w2.drewN nq := ⟨_, rfl⟩
  have hbW : Below w2.heap.size w2 W := by rw [hW]; exact ((Fr.refl (fun _ => False) w2).drewN nq).below (Nat.le_refl _) (by simp)
  rw [← hW]
  clear hW
  have hL6 : L ≤ 10000 := by have := HL.out; omega
  have hmk := run_make (P := Tryz.prog) W 37 Tb.TU i0 (.int .u8 0) Tb.underB hi0 hz0 .i64 .i64 L L (by omega) (by omega) (by rw [hz2']; omega) (by omega)
  rw [hz1'] at hmk
  simp only [Int.toNat_natCast, Nat.mul_one] at hmk
  have hcv := run_zs L W (by omega)
  obtain ⟨W2, hW2⟩ : ∃ W2, W2 = W.alloc (.cells (madeCells #[Value.int .u8 0] L) 5) := ⟨_, rfl⟩
  have hbW2 : Below w2.heap.size w2 W2 := by rw [hW2]; exact hbW.alloc hbW.size _
  have hmk2 : (Instr.makeSlice 37 (.int .i64 L) (.int .i64 L)).run Tryz.prog W = .ok (.slice (some ⟨W.heap.size, 0, none⟩) L L) W2 := by rw [hW2]; exact hmk
  rw [← hW2] at hcv
  obtain ⟨W3, hW3⟩ : ∃ W3, W3 = W2.alloc (.cells #[.string (zs L)] ES) := ⟨_, rfl⟩
  have hbW3 : Below w2.heap.size w2 W3 := by rw [hW3]; exact hbW2.alloc hbW2.size _
  have hx3 : Ss W3 (some ⟨W2.heap.size, 0, none⟩) 1 1 [zs L] := by rw [hW3]; exact ss_lit W2 [zs L] ES 1 rfl (by omega)
  have hbuf := HBUF.out.1
  have hfl := (hbuf.below hbW3).facts
  have hJ := rep_jn_len ls (nw ls 1 [zs L]) i 1 (by omega)
  rw [nw_one] at hJ
  rw [jn_len_one, zs_size] at hJ
  have hz3 := hbW3.size
  have HB3 := Lib.hid hbW3
  have HX3 := Lib.hid hx3
  have hzs := zs_size L
  have HW3 := Lib.hid hW3
  clear hmk hz5 hcs hbW hbW2 hbW3 hx3 hbuf hW2 hW3
  by_cases hpos : 0 < r
  · have hrep := replace_full (HBUF.out.1.below HB3.out) i 1 _ 1 1 _ HX3.out (by omega) (by omega) (zs_clean L) (by rw [jn_len_one, hzs]; omega) (by rw [nw_one]; have := HL.out; omega)
    have d1 : decide (0 < less.tmod 3) = true := by rw [← HR.out]; simpa using hpos
    rw [HW3.out] at hrep
    go_wp2_with fail
    refine hrep.mono ?_
    rintro e w4 ⟨rfl, hb4⟩
    rw [← HW3.out] at hb4
    have hb24 : Below w2.heap.size w2 w4 := HB3.out.trans (hb4.mono hz3)
    have hb04 : Below w.heap.size w w4 := HB2.out.trans (hb24.mono hz2)
    have hwh := whole_any (HBUF.out.1.below hb24) (hm.below hb04) (by omega) _ n c (SrcV.below HS.out hb04)
    have HB4 := Lib.hid hb04
    have hz4 := hb04.size
    clear hrep hb4 hb24 hb04
    go_wp2_with fail
    refine hwh.mono ?_
    rintro e w5 ⟨rfl, hb5⟩
    have HB5 := Lib.hid (HB4.out.trans (hb5.mono hz4))
    clear hwh hb5
    go_wp2
    go_ret
    exact ⟨rfl, HB5.out⟩
  · have hrep := replace_ok (HBUF.out.1.below HB3.out) i 1 _ 1 1 _ HX3.out (by omega) (by omega) (zs_clean L) (by rw [nw_one]; have := HL.out; omega) (by omega)
    have d1 : decide (0 < less.tmod 3) = false := by rw [← HR.out]; simpa using hpos
    rw [nw_one, HW3.out] at hrep
    go_wp2_with fail
    refine hrep.mono ?_
    rintro e w4 ⟨rfl, hc4⟩
    rw [← HW3.out] at hc4
    have hb03 : Below w.heap.size w W3 := HB2.out.trans (HB3.out.mono hz2)
    have hb04 : Below w.heap.size w w4 := hb03.trans (hc4.below (B := w.heap.size) hb03.size (fun k hk => by have := (HBUF.out.1.lt hk).1; omega))
    obtain ⟨F4, ed4, np4, hbuf4, _, _⟩ := hc4
    have hby := bytes_any hbuf4
    rw [show ((jn (rep ls i 1 [zs L])).length : Int) = 4096 + less.tmod 3 by rw [← HR.out]; have := HL.out; omega] at hby
    have heq : (4096 + less.tmod 3 == 4096 + less.tmod 3) = true := beq_self_eq_true _
    have HB4 := Lib.hid hb04
    clear hrep hb03 hb04 hbuf4
    go_wp2_with fail
    refine hby.mono ?_
    rintro e w' ⟨rfl, rfl⟩
    clear hby
    go_wp2
    go_ret
    exact ⟨rfl, HB4.out⟩
end Go.Proofs.YtfllgmgipmmpkaaGreatDoor.BLim
