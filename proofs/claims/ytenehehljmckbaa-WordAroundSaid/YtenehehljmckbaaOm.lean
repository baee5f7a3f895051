/-
  The document's WordInner.
-/
import Derived.Test.YtenehehljmckbaaOf
import Derived.Test.YtenehehljmckbaaOd
import Derived.Test.YtenehehljmckbaaOj
set_option linter.unusedVariables false
set_option linter.unusedSimpArgs false
set_option maxRecDepth 100000
namespace Go.Proofs.Ytenehehljmckbaa.Wo
open Go Go.RowKit Go.Proofs.Ytenehehljmckbaa.Vk Go.Proofs.Ytenehehljmckbaa.Str Go.Proofs.Ytenehehljmckbaa.Ln Go.Proofs.Ytenehehljmckbaa.Cl Go.Proofs.Ytenehehljmckbaa.Mv
attribute [local go_sem] Oper.semAt_some

set_option maxHeartbeats 4000000 in
theorem winner_any (a : Option Addr) (n c' : Nat) (ls : List ByteArray) (l c nn : Int) (b : Bool) (w : World) (h : Ss w a n c' ls) (hs : ∀ s ∈ ls, s.size ≤ 1000000) :
    Calls Try.prog 15 #[.slice a n c', .agg #[.int .i64 l, .int .i64 c], .int .i64 nn, .bool b] w fun e w' => e = .returned (anV l.toNat (innA ls b l c nn)) ∧ Below w.heap.size w w' := by
  have hlen := h.length
  obtain ⟨X, hX⟩ : ∃ X, X = (w.alloc (.cells #[.int .i64 l, .int .i64 c] 36)).alloc (.cells #[.int .i64 0, .int .i64 0, .int .i64 0, .int .i64 0, .int .i64 0] 43) := ⟨_, rfl⟩
  have hT : Vb w X l c := by rw [hX]; exact Vb.new w l c
  have HX := Lib.hid hX
  have p0 := hT.pos.c0
  have p1 := hT.pos.c1
  have hon := on_any a n c' ls l c nn X (SrcV.below h hT.below)
  by_cases hO : On ls l c ∧ 1 ≤ nn
  rotate_left
  · rw [innA_no hO]
    rw [decide_eq_false hO] at hon
    clear hX h hO
    go_enter Try.func15, Try.ntmps15
    go_wp2_with fail
    rw [← HX.out]
    refine hon.mono ?_
    rintro e w1 ⟨rfl, hb1⟩
    have T1 := hT.on hb1
    clear hon p0 p1 hT hb1
    have r0 := T1.rg.c0
    have r1 := T1.rg.c1
    have r2 := T1.rg.c2
    have r3 := T1.rg.c3
    have r4 := T1.rg.c4
    have z := T1.rg.z
    go_wp2
    obtain ⟨hg, hb⟩ := T1.ret 0 0 0 0 0
    exact ret_rb (g := w.heap.size + 1) rfl rfl rfl rfl hg ⟨rfl, hb⟩
  rw [decide_eq_true hO] at hon
  obtain ⟨hO, hn1⟩ := hO
  obtain ⟨i, k, rfl, rfl, hi, hk⟩ := hO.nat
  obtain ⟨m, rfl⟩ : ∃ m : Nat, nn = m := ⟨nn.toNat, by omega⟩
  have hm1 : 1 ≤ m := by omega
  rw [Int.toNat_natCast, innA_yes hO hm1]
  obtain ⟨g0, o0, rfl, hcx, hnc⟩ := h.read i (by omega)
  rw [← lineAt_get (ls := ls) (k := i) (by omega)] at hcx
  have hst : (lineAt ls i).size ≤ 1000000 := by rw [lineAt_get hi]; exact hs _ (List.getElem_mem _)
  have hcx := cell_later hT.below hcx
  have b1 : (i : Int) < (n : Int) := by omega
  generalize lineAt ls i = st at *
  clear hX h hs hnc hO hn1 hi
  by_cases hz : st.size = 0
  · have hK : innL (rs st b) (cn k (rs st b)) m = none := by
      have : rs st b = [] := by unfold rs; rw [hz]; rfl
      rw [this]
      exact if_neg (by rw [cn_nil]; simp; omega)
    rw [hK]
    have he := empty_of_zero hz
    clear hK hz hst hk
    go_enter Try.func15, Try.ntmps15
    go_wp2_with fail
    rw [← HX.out]
    refine hon.mono ?_
    rintro e w1 ⟨rfl, hb1⟩
    have T1 := hT.on hb1
    have q0 := T1.pos.c0
    have cx := cell_later hb1 hcx
    clear hon p0 p1 hT hb1 hcx
    have r0 := T1.rg.c0
    have r1 := T1.rg.c1
    have r2 := T1.rg.c2
    have r3 := T1.rg.c3
    have r4 := T1.rg.c4
    have z := T1.rg.z
    go_wp2
    obtain ⟨hg, hb⟩ := T1.ret 0 0 0 0 0
    exact ret_rb (g := w.heap.size + 1) rfl rfl rfl rfl hg ⟨rfl, hb⟩
  have hks : k < st.size := by omega
  have he := empty_of_pos (x := st) (by omega)
  have hrg := rs_rg (s := st) (b := b)
  obtain ⟨K, hAt⟩ := hrg.at hks
  rw [hAt.cn hrg]
  have hKl := hAt.lt
  have hLl : (rs st b).length ≤ 1000000 := by have := hrg.len; omega
  obtain ⟨L, hL⟩ : ∃ L, L = rs st b := ⟨_, rfl⟩
  have HL := Lib.hid hL
  rw [← hL] at hAt hKl hLl ⊢
  have HA := Lib.hid hAt
  clear hAt hL hrg hz hk
  obtain ⟨D, hD⟩ : ∃ D, D = L.length - K := ⟨_, rfl⟩
  have HD := Lib.hid hD
  by_cases hm : D < m
  · have hno : innL L K m = none := if_neg (by omega)
    rw [hno]
    have d1 : decide (D < m) = true := decide_eq_true hm
    clear hno hD hm1
    go_enter Try.func15, Try.ntmps15
    go_wp2_with fail
    rw [← HX.out]
    refine hon.mono ?_
    rintro e w1 ⟨rfl, hb1⟩
    have T1 := hT.on hb1
    have q0 := T1.pos.c0
    have cx := cell_later hb1 hcx
    clear hon p0 p1 hT hb1 hcx
    go_wp2_with fail
    refine (runs15_any st b w1 hst).mono ?_
    rintro e w2 ⟨ra, N, cc, rfl, hR⟩
    have T2 := T1.on hR.bel
    have hrs : Rs w2 ra N cc L := by rw [HL.out]; exact hR.rs
    have hNl := hrs.length
    have q0 := T2.pos.c0
    have q1 := T2.pos.c1
    clear hR T1 cx
    go_wp2_with fail
    refine (find_any ra N cc L k K w2 hrs HA.out (by omega)).mono ?_
    rintro e w' ⟨rfl, rfl⟩
    have hwD : IntKind.i64.wrap ((N : Int) - (K : Int)) = (D : Int) := by have := HD.out; rw [IntKind.wrap_i64]; omega
    clear hNl hrs q0 q1
    have r0 := T2.rg.c0
    have r1 := T2.rg.c1
    have r2 := T2.rg.c2
    have r3 := T2.rg.c3
    have r4 := T2.rg.c4
    have z := T2.rg.z
    go_wp2
    obtain ⟨hg, hb⟩ := T2.ret 0 0 0 0 0
    exact ret_rb (g := w.heap.size + 1) rfl rfl rfl rfl hg ⟨rfl, hb⟩
  · have hyes : innL L K m = some ((L.getD K (0, 0)).1, (L.getD (K + m - 1) (0, 0)).2) := if_pos (by omega)
    rw [hyes]
    have d1 : decide (D < m) = false := decide_eq_false hm
    obtain ⟨A, hA⟩ : ∃ A, A = (L.getD K (0, 0)).1 := ⟨_, rfl⟩
    obtain ⟨B, hB⟩ : ∃ B, B = (L.getD (K + m - 1) (0, 0)).2 := ⟨_, rfl⟩
    rw [← hA, ← hB]
    have HAB := Lib.hid (And.intro hA hB)
    clear hyes hA hB hD
    go_enter Try.func15, Try.ntmps15
    go_wp2_with fail
    rw [← HX.out]
    refine hon.mono ?_
    rintro e w1 ⟨rfl, hb1⟩
    have T1 := hT.on hb1
    have q0 := T1.pos.c0
    have cx := cell_later hb1 hcx
    clear hon p0 p1 hT hb1 hcx
    go_wp2_with fail
    refine (runs15_any st b w1 hst).mono ?_
    rintro e w2 ⟨ra, N, cc, rfl, hR⟩
    have T2 := T1.on hR.bel
    have hrs : Rs w2 ra N cc L := by rw [HL.out]; exact hR.rs
    have hNl := hrs.length
    have q0 := T2.pos.c0
    have q1 := T2.pos.c1
    clear hR T1 cx
    go_wp2_with fail
    refine (find_any ra N cc L k K w2 hrs HA.out (by omega)).mono ?_
    rintro e w' ⟨rfl, rfl⟩
    have hDD := HD.out
    have hwD : IntKind.i64.wrap ((N : Int) - (K : Int)) = (D : Int) := by rw [IntKind.wrap_i64]; omega
    obtain ⟨E, hE⟩ : ∃ E, E = K + m := ⟨_, rfl⟩
    obtain ⟨M, hM⟩ : ∃ M, M = K + m - 1 := ⟨_, rfl⟩
    have hwE : IntKind.i64.wrap ((K : Int) + (m : Int)) = (E : Int) := by rw [IntKind.wrap_i64]; omega
    have hwM : IntKind.i64.wrap ((E : Int) - 1) = (M : Int) := by rw [IntKind.wrap_i64]; omega
    obtain ⟨g, o, rfl, x0, x1, hnc⟩ := hrs.read K (by omega)
    obtain ⟨g', o', he', y0, y1, y2⟩ := hrs.read M (by omega)
    injection he' with he'
    injection he' with e1 e2
    subst e1 e2
    have gA : L.getD K (0, 0) = L[K]'(by omega) := by rw [List.getD_eq_getElem?_getD, List.getElem?_eq_getElem (by omega)]; rfl
    have gB : L.getD M (0, 0) = L[M]'(by omega) := by rw [List.getD_eq_getElem?_getD, List.getElem?_eq_getElem (by omega)]; rfl
    have hAB := HAB.out
    rw [← hM] at hAB
    rw [gA, gB] at hAB
    rw [← hAB.1] at x0
    rw [← hAB.2] at y1
    have f0 := fun z : Gr w2 => z.cell T2.pos.c0
    have f1 := fun z : Gr w2 => z.cell x0
    have f2 := fun z : Gr w2 => z.cell y1
    have hin := fun z : Gr w2 => in_any i A B z.W
    have b2 : (K : Int) < (N : Int) := by omega
    have b3 : (M : Int) < (N : Int) := by omega
    have HT := Lib.hid T2
    clear hNl hrs q0 q1 x0 x1 y0 y1 y2 hDD hE hM gA gB hAB T2
    go_upto_region 7 with fail
    refine wp_region_grow_tail 18 (by kernel_rfl) (by kernel_rfl) ?_
    simp only [List.take_succ_cons, List.take_zero, List.drop_succ_cons, List.drop_zero]
    repeat (go_big_quiet_step (first | (go_at_call 27; exact Calls.grow_of (hin _))))
    refine wpQuiet_nil ?_
    rintro V ⟨⟨_, hbV⟩, rfl⟩
    have T3 := HT.out.on hbV
    clear f0 f1 f2 hin hbV
    have r0 := T3.rg.c0
    have r1 := T3.rg.c1
    have r2 := T3.rg.c2
    have r3 := T3.rg.c3
    have r4 := T3.rg.c4
    have z := T3.rg.z
    go_wp2
    obtain ⟨hg, hb⟩ := T3.ret 0 i A i B
    exact ret_rb (g := w.heap.size + 1) rfl rfl rfl rfl hg ⟨rfl, hb⟩
end Go.Proofs.Ytenehehljmckbaa.Wo
