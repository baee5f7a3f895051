/-
  Package wordobj: Inner.
-/
import Derived.Test.YtenehehljmckbaaOc
import Derived.Test.YtenehehljmckbaaOe
import Derived.Test.YtenehehljmckbaaOj
set_option linter.unusedVariables false
set_option linter.unusedSimpArgs false
set_option maxRecDepth 100000
namespace Go.Proofs.Ytenehehljmckbaa.Wo
open Go Go.RowKit Go.Proofs.Ytenehehljmckbaa.Vk Go.Proofs.Ytenehehljmckbaa.Str Go.Proofs.Ytenehehljmckbaa.Ln Go.Proofs.Ytenehehljmckbaa.Cl Go.Proofs.Ytenehehljmckbaa.Mv
attribute [local go_sem] Oper.semAt_some

set_option maxHeartbeats 4000000 in
theorem inner_any (a : Option Addr) (n c' : Nat) (ls : List ByteArray) (l c nn : Int) (b : Bool) (w : World) (h : Ss w a n c' ls) (hs : ∀ s ∈ ls, s.size ≤ 1000000) :
    Calls Try.prog 14 #[.slice a n c', .agg #[.int .i64 l, .int .i64 c], .int .i64 nn, .bool b] w fun e w' => e = .returned (anV l.toNat (innA ls b l c nn)) ∧ Below w.heap.size w w' := by
  have hlen := h.length
  obtain ⟨X, hX⟩ : ∃ X, X = (w.alloc (.cells #[.int .i64 l, .int .i64 c] 36)).alloc (.cells #[.int .i64 0, .int .i64 0, .int .i64 0, .int .i64 0, .int .i64 0] 43) := ⟨_, rfl⟩
  have hT : Vb w X l c := by rw [hX]; exact Vb.new w l c
  have HX := Lib.hid hX
  have p0 := hT.pos.c0
  have p1 := hT.pos.c1
  by_cases hO : On ls l c
  · obtain ⟨i, k, rfl, rfl, hi, hk⟩ := hO.nat
    have hra := runsAt_yes a n c' ls i k b X (SrcV.below h hT.below) hs hO
    have hcle := cn_le (c := k) (rs (lineAt ls i) b)
    have hst : (rs (lineAt ls i) b).length ≤ 1000000 := by
      have h1 := (rs_rg (s := lineAt ls i) (b := b)).len
      have h2 : (lineAt ls i).size ≤ 1000000 := by rw [lineAt_get hi]; exact hs _ (List.getElem_mem _)
      omega
    have HO := Lib.hid hO
    rw [Int.toNat_natCast]
    have hyes := fun (m : Nat) (hm : 1 ≤ m) => innA_yes (b := b) hO hm
    generalize lineAt ls i = st at *
    generalize hL : rs st b = L at *
    generalize cn k L = K at *
    by_cases hn1 : nn < 1
    · have hno := innA_no (b := b) (ls := ls) (l := i) (c := k) (nn := nn) (fun hh => by omega)
      rw [hno]
      have d0 : decide (nn < 1) = true := decide_eq_true hn1
      clear hX h hO hyes hno hk
      go_enter Try.func14, Try.ntmps14
      go_wp2_with fail
      rw [← HX.out]
      refine hra.mono ?_
      rintro e w1 ⟨ra, N, cc, rfl, hw, hb1⟩
      have T1 := hT.on hb1
      clear hra p0 p1 hT hb1
      have r0 := T1.rg.c0
      have r1 := T1.rg.c1
      have r2 := T1.rg.c2
      have r3 := T1.rg.c3
      have r4 := T1.rg.c4
      have z := T1.rg.z
      go_wp2
      obtain ⟨hg, hb⟩ := T1.ret 0 0 0 0 0
      exact ret_rb (g := w.heap.size + 1) rfl rfl rfl rfl hg ⟨rfl, hb⟩
    · obtain ⟨m, rfl⟩ : ∃ m : Nat, nn = m := ⟨nn.toNat, by omega⟩
      rw [hyes m (by omega)]
      clear hyes
      have d0 : decide ((m : Int) < 1) = false := decide_eq_false hn1
      have d00 : decide (m < 1) = false := decide_eq_false (by omega)
      obtain ⟨D, hD⟩ : ∃ D, D = L.length - K := ⟨_, rfl⟩
      by_cases hm : D < m
      · have hno : innL L K m = none := if_neg (by omega)
        rw [hno]
        have d1 : decide (D < m) = true := decide_eq_true hm
        have HD := Lib.hid hD
        clear hX h hO hno hk hD
        go_enter Try.func14, Try.ntmps14
        go_wp2_with fail
        rw [← HX.out]
        refine hra.mono ?_
        rintro e w1 ⟨ra, N, cc, rfl, hw, hb1⟩
        have hwl := hw.length
        have hwD : IntKind.i64.wrap ((N : Int) - (K : Int)) = (D : Int) := by have := HD.out; rw [IntKind.wrap_i64]; omega
        have T1 := hT.on hb1
        clear hra p0 p1 hT hb1 hwl
        have r0 := T1.rg.c0
        have r1 := T1.rg.c1
        have r2 := T1.rg.c2
        have r3 := T1.rg.c3
        have r4 := T1.rg.c4
        have z := T1.rg.z
        go_wp2
        obtain ⟨hg, hb⟩ := T1.ret 0 0 0 0 0
        exact ret_rb (g := w.heap.size + 1) rfl rfl rfl rfl hg ⟨rfl, hb⟩
      · have hyes : innL L K m = some ((L.getD K (0, 0)).1, (L.getD (K + m - 1) (0, 0)).2) := if_pos (by omega)
        rw [hyes]
        have d1 : decide (D < m) = false := decide_eq_false hm
        have HD := Lib.hid hD
        obtain ⟨A, hA⟩ : ∃ A, A = (L.getD K (0, 0)).1 := ⟨_, rfl⟩
        obtain ⟨B, hB⟩ : ∃ B, B = (L.getD (K + m - 1) (0, 0)).2 := ⟨_, rfl⟩
        rw [← hA, ← hB]
        have HAB := Lib.hid (And.intro hA hB)
        clear hX h hO hyes hk hD hA hB
        go_enter Try.func14, Try.ntmps14
        go_wp2_with fail
        rw [← HX.out]
        refine hra.mono ?_
        rintro e w1 ⟨ra, N, cc, rfl, hw, hb1⟩
        have hwl := hw.length
        have hDD := HD.out
        have hwD : IntKind.i64.wrap ((N : Int) - (K : Int)) = (D : Int) := by rw [IntKind.wrap_i64]; omega
        obtain ⟨E, hE⟩ : ∃ E, E = K + m := ⟨_, rfl⟩
        have hwE : IntKind.i64.wrap ((K : Int) + (m : Int)) = (E : Int) := by rw [IntKind.wrap_i64]; omega
        obtain ⟨g, o, rfl, x0, x1, x2, hnc⟩ := hw.read K (by omega)
        obtain ⟨g', o', he, y0, y1, y2, _⟩ := hw.read (K + m - 1) (by omega)
        injection he with he
        injection he with e1 e2
        subst e1 e2
        have gA : L.getD K (0, 0) = L[K]'(by omega) := by rw [List.getD_eq_getElem?_getD, List.getElem?_eq_getElem (by omega)]; rfl
        have gB : L.getD (K + m - 1) (0, 0) = L[K + m - 1]'(by omega) := by rw [List.getD_eq_getElem?_getD, List.getElem?_eq_getElem (by omega)]; rfl
        have hAB := HAB.out
        rw [gA, gB] at hAB
        rw [← hAB.1] at x0
        rw [← hAB.2] at y1
        have T1 := hT.on hb1
        have f0 := fun z : Gr w1 => z.cell T1.pos.c0
        have y1 : w1.cell? ⟨g, o + K * 3 + (m - 1) * 3 + 1, none⟩ = some (.int .i64 B) := by rw [← y1]; congr 2; omega
        have hcv := fun z : Gr w1 => covered_any i A B g (o + K * 3) m (cc - K) z.W (by omega) (by omega) (z.cell x0) (z.cell y1)
        have b1 : (K : Int) ≤ (E : Int) := by omega
        have b2 : (E : Int) ≤ (N : Int) := by omega
        have b3 : (E : Int) ≤ (cc : Int) := by omega
        have b4 : E - K = m := by omega
        have HT := Lib.hid T1
        have HE := Lib.hid hE
        clear hra p0 p1 hT hb1 hwl x0 x1 x2 y0 y1 y2 hw hDD hE gA gB hAB
        go_upto_region 4 with fail
        refine wp_region_grow_tail 9 (by kernel_rfl) (by kernel_rfl) ?_
        simp only [List.take_succ_cons, List.take_zero, List.drop_succ_cons, List.drop_zero]
        repeat (go_big_quiet_step (first | (go_at_call 24; exact Calls.grow_of (hcv _))))
        refine wpQuiet_nil ?_
        rintro V ⟨⟨_, hbV⟩, rfl⟩
        have T2 := HT.out.on hbV
        clear f0 hcv hbV T1
        have r0 := T2.rg.c0
        have r1 := T2.rg.c1
        have r2 := T2.rg.c2
        have r3 := T2.rg.c3
        have r4 := T2.rg.c4
        have z := T2.rg.z
        go_wp2
        obtain ⟨hg, hb⟩ := T2.ret 0 i A i B
        exact ret_rb (g := w.heap.size + 1) rfl rfl rfl rfl hg ⟨rfl, hb⟩
  · have hra := runsAt_no a n c' ls l c b X (SrcV.below h hT.below) (fun s hh => Nat.le_trans (hs s hh) (by omega)) hO
    rw [innA_no (fun hh => hO hh.1)]
    have d0 : decide (0 < nn) = !decide (nn < 1) := by by_cases e : nn < 1 <;> simp [e] <;> omega
    clear hX h hO
    by_cases hn1 : nn < 1
    · have d1 : decide (nn < 1) = true := decide_eq_true hn1
      go_enter Try.func14, Try.ntmps14
      go_wp2_with fail
      rw [← HX.out]
      refine hra.mono ?_
      rintro e w1 ⟨rfl, hb1⟩
      have T1 := hT.on hb1
      clear hra p0 p1 hT hb1
      have r0 := T1.rg.c0
      have r1 := T1.rg.c1
      have r2 := T1.rg.c2
      have r3 := T1.rg.c3
      have r4 := T1.rg.c4
      have z := T1.rg.z
      go_wp2
      obtain ⟨hg, hb⟩ := T1.ret 0 0 0 0 0
      exact ret_rb (g := w.heap.size + 1) rfl rfl rfl rfl hg ⟨rfl, hb⟩
    · have d1 : decide (nn < 1) = false := decide_eq_false hn1
      have d2 : decide (0 < nn) = true := decide_eq_true (by omega)
      clear d0
      go_enter Try.func14, Try.ntmps14
      go_wp2_with fail
      rw [← HX.out]
      refine hra.mono ?_
      rintro e w1 ⟨rfl, hb1⟩
      have T1 := hT.on hb1
      clear hra p0 p1 hT hb1
      have r0 := T1.rg.c0
      have r1 := T1.rg.c1
      have r2 := T1.rg.c2
      have r3 := T1.rg.c3
      have r4 := T1.rg.c4
      have z := T1.rg.z
      go_wp2
      obtain ⟨hg, hb⟩ := T1.ret 0 0 0 0 0
      exact ret_rb (g := w.heap.size + 1) rfl rfl rfl rfl hg ⟨rfl, hb⟩
end Go.Proofs.Ytenehehljmckbaa.Wo
