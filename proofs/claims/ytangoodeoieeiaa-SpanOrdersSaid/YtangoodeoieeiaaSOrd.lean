/-
  The law SpanOrders, walked.
-/
import Derived.Test.YtangoodeoieeiaaSk
set_option linter.unusedVariables false
set_option linter.unusedSimpArgs false
set_option maxRecDepth 100000
namespace Go.Proofs.Ytangoodeoieeiaa.SOrd
open Go Go.RowKit Go.Proofs.Ytangoodeoieeiaa.Vk Go.Proofs.Ytangoodeoieeiaa.Str Go.Proofs.Ytangoodeoieeiaa.Ln Go.Proofs.Ytangoodeoieeiaa.Cl Go.Proofs.Ytangoodeoieeiaa.So
attribute [local go_sem] Oper.semAt_some

theorem lt_irrefl (a b : Int) : lt a b a b = false := by unfold lt; rw [decide_eq_false_iff_not]; omega
theorem order_shape (a b c d : Int) : ∃ p q r s : Int, (if lt c d a b = true then Value.tuple #[.agg #[.int .i64 c, .int .i64 d], .agg #[.int .i64 a, .int .i64 b]] else .tuple #[.agg #[.int .i64 a, .int .i64 b], .agg #[.int .i64 c, .int .i64 d]]) = .tuple #[.agg #[.int .i64 p, .int .i64 q], .agg #[.int .i64 r, .int .i64 s]] := by
  split
  · exact ⟨_, _, _, _, rfl⟩
  · exact ⟨_, _, _, _, rfl⟩

set_option maxHeartbeats 4000000 in
theorem walk (a b c d : Int) (line : Bool) (w : World) (_ha : (Lit.int .i64 a).wf = true) (_hb : (Lit.int .i64 b).wf = true) (_hc : (Lit.int .i64 c).wf = true) (_hd : (Lit.int .i64 d).wf = true) :
    Calls Try.prog 3 #[.agg #[.int .i64 a, .int .i64 b], .agg #[.int .i64 c, .int .i64 d], .bool line] w fun e w' => e = .returned (.bool true) ∧ Below w.heap.size w w' := by
  obtain ⟨w0, hw0⟩ : ∃ w0, w0 = (w.alloc (.cells #[.int .i64 a, .int .i64 b] 23)).alloc (.cells #[.int .i64 c, .int .i64 d] 23) := ⟨_, rfl⟩
  have hb0 : Below w.heap.size w w0 := by rw [hw0]; exact two_below _ _ _
  have hz0 : w0.heap.size = w.heap.size + 2 := by rw [hw0]; simp
  have a0 : w0.heap[w.heap.size]? = some (.cells #[.int .i64 a, .int .i64 b] 23 (0, 0)) := by rw [hw0]; exact (Below.heap_alloc _ _ _ (by simp)).trans (heap_alloc_new w _)
  have b0 : w0.heap[w.heap.size + 1]? = some (.cells #[.int .i64 c, .int .i64 d] 23 (0, 0)) := by rw [hw0]; exact two_new w _ _
  have hk := known_any w0
  have HW0 := Lib.hid hw0
  have H0 := Lib.hid (And.intro hb0 (And.intro a0 b0))
  clear hw0 hb0 a0 b0 _ha _hb _hc _hd
  go_enter Try.func3, Try.ntmps3
  go_wp2_with fail
  rw [← HW0.out]
  refine hk.mono ?_
  rintro e w1 ⟨rfl, hb1⟩
  clear hk
  obtain ⟨hb0, a0, b0⟩ := H0.out
  have hz1 := hb1.size
  have a1 := (hb1.block _ (by omega)).trans a0
  have b1 := (hb1.block _ (by omega)).trans b0
  have hb01 := hb0.trans (hb1.mono hb0.size)
  have c0 : w1.cell? ⟨w.heap.size, 0, none⟩ = some (.int .i64 a) := (cell_of_row w1 _ 0 _ _ _ a1).trans (by simp)
  have c1 : w1.cell? ⟨w.heap.size, 1, none⟩ = some (.int .i64 b) := (cell_of_row w1 _ 1 _ _ _ a1).trans (by simp)
  have c2 : w1.cell? ⟨w.heap.size + 1, 0, none⟩ = some (.int .i64 c) := (cell_of_row w1 _ 0 _ _ _ b1).trans (by simp)
  have c3 : w1.cell? ⟨w.heap.size + 1, 1, none⟩ = some (.int .i64 d) := (cell_of_row w1 _ 1 _ _ _ b1).trans (by simp)
  have z2 : w1.frozen? ⟨w.heap.size + 1, 0, none⟩ = false := frozen_of_row w1 _ 0 _ _ b1
  have H1 := Lib.hid (And.intro hb01 (And.intro a1 b1))
  clear hb0 a0 b0 hb1 a1 b1 hb01 H0 HW0
  cases line
  · obtain ⟨w2, rfl⟩ : ∃ w2, w2 = w1 := ⟨_, rfl⟩
    have H2 : Hid (Below w.heap.size w w2 ∧ w2.heap[w.heap.size]? = some (.cells #[.int .i64 a, .int .i64 b] 23 (0, 0)) ∧ w2.heap[w.heap.size + 1]? = some (.cells #[.int .i64 c, .int .i64 d] 23 (0, 0))) := by
      exact H1.out
    have hz2 : w.heap.size + 2 ≤ w2.heap.size := by have := (Array.getElem?_eq_some_iff.1 H2.out.2.2).1; omega
    obtain ⟨p, q, r, s, hsh⟩ := order_shape a b c d
    have h1 := order_any a b c d w2
    rw [hsh] at h1
    have h2 := fun W => order5_any a b c d W
    simp only [hsh] at h2
    have HSH := Lib.hid hsh
    clear hsh
    go_wp2_with fail

    refine h1.mono ?_
    rintro e w3 ⟨rfl, hb3⟩
    clear h1 c0 c1 c2 c3 z2
    have hz3 := hb3.size
    have a3 := (hb3.block _ (by omega)).trans H2.out.2.1
    have b3 := (hb3.block _ (by omega)).trans H2.out.2.2
    have c0 := cell_two (show w3.cell? ⟨w.heap.size, 0, none⟩ = some (.int .i64 a) from (cell_of_row w3 _ 0 _ _ _ a3).trans (by simp))
    have c1 := cell_two (show w3.cell? ⟨w.heap.size, 1, none⟩ = some (.int .i64 b) from (cell_of_row w3 _ 1 _ _ _ a3).trans (by simp))
    have c2 := cell_two (show w3.cell? ⟨w.heap.size + 1, 0, none⟩ = some (.int .i64 c) from (cell_of_row w3 _ 0 _ _ _ b3).trans (by simp))
    have c3 := cell_two (show w3.cell? ⟨w.heap.size + 1, 1, none⟩ = some (.int .i64 d) from (cell_of_row w3 _ 1 _ _ _ b3).trans (by simp))
    obtain ⟨w4, hw4⟩ : ∃ w4, w4 = (w3.alloc (.cells #[.int .i64 p, .int .i64 q] 23)).alloc (.cells #[.int .i64 r, .int .i64 s] 23) := ⟨_, rfl⟩
    have hb4 : Below w3.heap.size w3 w4 := by rw [hw4]; exact two_below _ _ _
    have hz4 : w4.heap.size = w3.heap.size + 2 := by rw [hw4]; simp
    have x4 : w4.heap[w3.heap.size]? = some (.cells #[.int .i64 p, .int .i64 q] 23 (0, 0)) := by rw [hw4]; exact (Below.heap_alloc _ _ _ (by simp)).trans (heap_alloc_new w3 _)
    have y4 : w4.heap[w3.heap.size + 1]? = some (.cells #[.int .i64 r, .int .i64 s] 23 (0, 0)) := by rw [hw4]; exact two_new w3 _ _
    have a4 := (hb4.block _ (by omega)).trans a3
    have b4 := (hb4.block _ (by omega)).trans b3
    have hb04 := H2.out.1.trans ((hb3.trans (hb4.mono hb3.size)).mono H2.out.1.size)
    have HW4 := Lib.hid hw4
    have H4 := Lib.hid (And.intro hb04 (And.intro a4 (And.intro b4 (And.intro x4 y4))))
    clear hw4 hb4 x4 y4 a4 b4 hb04 a3 b3 hb3
    go_wp2_with fail
    rw [← HW4.out]
    refine (h2 _).mono ?_
    rintro e w5 ⟨rfl, hb5⟩
    clear h2 c0 c1 c2 c3
    have hz5 := hb5.size
    obtain ⟨hb04, a4, b4, x4, y4⟩ := H4.out
    obtain ⟨w6, hw6⟩ : ∃ w6, w6 = (w5.alloc (.cells #[.int .i64 p, .int .i64 q] 23)).alloc (.cells #[.int .i64 r, .int .i64 s] 23) := ⟨_, rfl⟩
    have hb6 : Below w5.heap.size w5 w6 := by rw [hw6]; exact two_below _ _ _
    have hb46 := hb5.trans (hb6.mono hb5.size)
    have p6 : w6.heap[w5.heap.size]? = some (.cells #[.int .i64 p, .int .i64 q] 23 (0, 0)) := by rw [hw6]; exact (Below.heap_alloc _ _ _ (by simp)).trans (heap_alloc_new w5 _)
    have q6 : w6.heap[w5.heap.size + 1]? = some (.cells #[.int .i64 r, .int .i64 s] 23 (0, 0)) := by rw [hw6]; exact two_new w5 _ _
    have a6 := (hb46.block _ (by omega)).trans a4
    have b6 := (hb46.block _ (by omega)).trans b4
    have x6 := (hb46.block _ (by omega)).trans x4
    have y6 := (hb46.block _ (by omega)).trans y4
    have f0 := fun z : Gr w6 => z.cell (show w6.cell? ⟨w.heap.size, 0, none⟩ = some (.int .i64 a) from (cell_of_row w6 _ 0 _ _ _ a6).trans (by simp))
    have f1 := fun z : Gr w6 => z.cell (show w6.cell? ⟨w.heap.size, 1, none⟩ = some (.int .i64 b) from (cell_of_row w6 _ 1 _ _ _ a6).trans (by simp))
    have f2 := fun z : Gr w6 => z.cell (show w6.cell? ⟨w.heap.size + 1, 0, none⟩ = some (.int .i64 c) from (cell_of_row w6 _ 0 _ _ _ b6).trans (by simp))
    have f3 := fun z : Gr w6 => z.cell (show w6.cell? ⟨w.heap.size + 1, 1, none⟩ = some (.int .i64 d) from (cell_of_row w6 _ 1 _ _ _ b6).trans (by simp))
    have f4 := fun z : Gr w6 => z.cell (show w6.cell? ⟨w3.heap.size, 0, none⟩ = some (.int .i64 p) from (cell_of_row w6 _ 0 _ _ _ x6).trans (by simp))
    have f5 := fun z : Gr w6 => z.cell (show w6.cell? ⟨w3.heap.size, 1, none⟩ = some (.int .i64 q) from (cell_of_row w6 _ 1 _ _ _ x6).trans (by simp))
    have f6 := fun z : Gr w6 => z.cell (show w6.cell? ⟨w3.heap.size + 1, 0, none⟩ = some (.int .i64 r) from (cell_of_row w6 _ 0 _ _ _ y6).trans (by simp))
    have f7 := fun z : Gr w6 => z.cell (show w6.cell? ⟨w3.heap.size + 1, 1, none⟩ = some (.int .i64 s) from (cell_of_row w6 _ 1 _ _ _ y6).trans (by simp))
    have f8 := fun z : Gr w6 => z.cell (show w6.cell? ⟨w5.heap.size, 0, none⟩ = some (.int .i64 p) from (cell_of_row w6 _ 0 _ _ _ p6).trans (by simp))
    have f9 := fun z : Gr w6 => z.cell (show w6.cell? ⟨w5.heap.size, 1, none⟩ = some (.int .i64 q) from (cell_of_row w6 _ 1 _ _ _ p6).trans (by simp))
    have g0 := fun z : Gr w6 => z.cell (show w6.cell? ⟨w5.heap.size + 1, 0, none⟩ = some (.int .i64 r) from (cell_of_row w6 _ 0 _ _ _ q6).trans (by simp))
    have g1 := fun z : Gr w6 => z.cell (show w6.cell? ⟨w5.heap.size + 1, 1, none⟩ = some (.int .i64 s) from (cell_of_row w6 _ 1 _ _ _ q6).trans (by simp))
    have hirr := lt_irrefl a b
    have e1 := fun W => (eq_pos p q p q W).trans (by simp : _ = Result.ok (.bool true) W)
    have e2 := fun W => (eq_pos r s r s W).trans (by simp : _ = Result.ok (.bool true) W)
    have HB := Lib.hid (hb04.trans (hb46.mono hb04.size))
    have HW6 := Lib.hid hw6
    clear hw6 hb6 hb46 p6 q6 a6 b6 x6 y6 hb04 a4 b4 x4 y4 hb5
    go_wp2_with fail
    rw [← HW6.out]
    refine wp_region_grow (by kernel_rfl) (by kernel_rfl) ?_
    repeat (go_big_quiet_step (first
      | (go_at_call 10; exact Calls.grow_of (less_any _ _ _ _ _))
      | (go_at_call 11; exact Calls.grow_of (less5_any _ _ _ _ _))))
    refine wpQuiet_nil ?_
    rintro _ ⟨⟨X5, hX5⟩, rfl⟩
    go_wp2
    go_ret
    exact ⟨rfl, HB.out.trans (hX5.mono HB.out.size)⟩
  · obtain ⟨w2, hw2⟩ : ∃ w2, w2 = w1.setCell ⟨w.heap.size + 1, 0, none⟩ (.int .i64 a) := ⟨_, rfl⟩
    have H2 : Hid (Below w.heap.size w w2 ∧ w2.heap[w.heap.size]? = some (.cells #[.int .i64 a, .int .i64 b] 23 (0, 0)) ∧ w2.heap[w.heap.size + 1]? = some (.cells #[.int .i64 a, .int .i64 d] 23 (0, 0))) := by
      obtain ⟨hb, a1, b1⟩ := H1.out
      rw [hw2]
      exact ⟨hb.setCell (p := ⟨w.heap.size + 1, 0, none⟩) (by show w.heap.size ≤ w.heap.size + 1; omega) _, (Below.heap_setCell _ _ _ _ (by show w.heap.size ≠ w.heap.size + 1; omega)).trans a1, (heap_setCell_same w1 (w.heap.size + 1) 0 _ _ _ b1).trans (by simp)⟩
    have HW2 := Lib.hid hw2
    have hz2 : w.heap.size + 2 ≤ w2.heap.size := by have := (Array.getElem?_eq_some_iff.1 H2.out.2.2).1; omega
    obtain ⟨p, q, r, s, hsh⟩ := order_shape a b a d
    have h1 := order_any a b a d w2
    rw [hsh] at h1
    have h2 := fun W => order5_any a b a d W
    simp only [hsh] at h2
    have HSH := Lib.hid hsh
    clear hsh
    go_wp2_with fail
    rw [← HW2.out]
    refine h1.mono ?_
    rintro e w3 ⟨rfl, hb3⟩
    clear h1 c0 c1 c2 c3 z2
    have hz3 := hb3.size
    have a3 := (hb3.block _ (by omega)).trans H2.out.2.1
    have b3 := (hb3.block _ (by omega)).trans H2.out.2.2
    have c0 := cell_two (show w3.cell? ⟨w.heap.size, 0, none⟩ = some (.int .i64 a) from (cell_of_row w3 _ 0 _ _ _ a3).trans (by simp))
    have c1 := cell_two (show w3.cell? ⟨w.heap.size, 1, none⟩ = some (.int .i64 b) from (cell_of_row w3 _ 1 _ _ _ a3).trans (by simp))
    have c2 := cell_two (show w3.cell? ⟨w.heap.size + 1, 0, none⟩ = some (.int .i64 a) from (cell_of_row w3 _ 0 _ _ _ b3).trans (by simp))
    have c3 := cell_two (show w3.cell? ⟨w.heap.size + 1, 1, none⟩ = some (.int .i64 d) from (cell_of_row w3 _ 1 _ _ _ b3).trans (by simp))
    obtain ⟨w4, hw4⟩ : ∃ w4, w4 = (w3.alloc (.cells #[.int .i64 p, .int .i64 q] 23)).alloc (.cells #[.int .i64 r, .int .i64 s] 23) := ⟨_, rfl⟩
    have hb4 : Below w3.heap.size w3 w4 := by rw [hw4]; exact two_below _ _ _
    have hz4 : w4.heap.size = w3.heap.size + 2 := by rw [hw4]; simp
    have x4 : w4.heap[w3.heap.size]? = some (.cells #[.int .i64 p, .int .i64 q] 23 (0, 0)) := by rw [hw4]; exact (Below.heap_alloc _ _ _ (by simp)).trans (heap_alloc_new w3 _)
    have y4 : w4.heap[w3.heap.size + 1]? = some (.cells #[.int .i64 r, .int .i64 s] 23 (0, 0)) := by rw [hw4]; exact two_new w3 _ _
    have a4 := (hb4.block _ (by omega)).trans a3
    have b4 := (hb4.block _ (by omega)).trans b3
    have hb04 := H2.out.1.trans ((hb3.trans (hb4.mono hb3.size)).mono H2.out.1.size)
    have HW4 := Lib.hid hw4
    have H4 := Lib.hid (And.intro hb04 (And.intro a4 (And.intro b4 (And.intro x4 y4))))
    clear hw4 hb4 x4 y4 a4 b4 hb04 a3 b3 hb3
    go_wp2_with fail
    rw [← HW4.out]
    refine (h2 _).mono ?_
    rintro e w5 ⟨rfl, hb5⟩
    clear h2 c0 c1 c2 c3
    have hz5 := hb5.size
    obtain ⟨hb04, a4, b4, x4, y4⟩ := H4.out
    obtain ⟨w6, hw6⟩ : ∃ w6, w6 = (w5.alloc (.cells #[.int .i64 p, .int .i64 q] 23)).alloc (.cells #[.int .i64 r, .int .i64 s] 23) := ⟨_, rfl⟩
    have hb6 : Below w5.heap.size w5 w6 := by rw [hw6]; exact two_below _ _ _
    have hb46 := hb5.trans (hb6.mono hb5.size)
    have p6 : w6.heap[w5.heap.size]? = some (.cells #[.int .i64 p, .int .i64 q] 23 (0, 0)) := by rw [hw6]; exact (Below.heap_alloc _ _ _ (by simp)).trans (heap_alloc_new w5 _)
    have q6 : w6.heap[w5.heap.size + 1]? = some (.cells #[.int .i64 r, .int .i64 s] 23 (0, 0)) := by rw [hw6]; exact two_new w5 _ _
    have a6 := (hb46.block _ (by omega)).trans a4
    have b6 := (hb46.block _ (by omega)).trans b4
    have x6 := (hb46.block _ (by omega)).trans x4
    have y6 := (hb46.block _ (by omega)).trans y4
    have f0 := fun z : Gr w6 => z.cell (show w6.cell? ⟨w.heap.size, 0, none⟩ = some (.int .i64 a) from (cell_of_row w6 _ 0 _ _ _ a6).trans (by simp))
    have f1 := fun z : Gr w6 => z.cell (show w6.cell? ⟨w.heap.size, 1, none⟩ = some (.int .i64 b) from (cell_of_row w6 _ 1 _ _ _ a6).trans (by simp))
    have f2 := fun z : Gr w6 => z.cell (show w6.cell? ⟨w.heap.size + 1, 0, none⟩ = some (.int .i64 a) from (cell_of_row w6 _ 0 _ _ _ b6).trans (by simp))
    have f3 := fun z : Gr w6 => z.cell (show w6.cell? ⟨w.heap.size + 1, 1, none⟩ = some (.int .i64 d) from (cell_of_row w6 _ 1 _ _ _ b6).trans (by simp))
    have f4 := fun z : Gr w6 => z.cell (show w6.cell? ⟨w3.heap.size, 0, none⟩ = some (.int .i64 p) from (cell_of_row w6 _ 0 _ _ _ x6).trans (by simp))
    have f5 := fun z : Gr w6 => z.cell (show w6.cell? ⟨w3.heap.size, 1, none⟩ = some (.int .i64 q) from (cell_of_row w6 _ 1 _ _ _ x6).trans (by simp))
    have f6 := fun z : Gr w6 => z.cell (show w6.cell? ⟨w3.heap.size + 1, 0, none⟩ = some (.int .i64 r) from (cell_of_row w6 _ 0 _ _ _ y6).trans (by simp))
    have f7 := fun z : Gr w6 => z.cell (show w6.cell? ⟨w3.heap.size + 1, 1, none⟩ = some (.int .i64 s) from (cell_of_row w6 _ 1 _ _ _ y6).trans (by simp))
    have f8 := fun z : Gr w6 => z.cell (show w6.cell? ⟨w5.heap.size, 0, none⟩ = some (.int .i64 p) from (cell_of_row w6 _ 0 _ _ _ p6).trans (by simp))
    have f9 := fun z : Gr w6 => z.cell (show w6.cell? ⟨w5.heap.size, 1, none⟩ = some (.int .i64 q) from (cell_of_row w6 _ 1 _ _ _ p6).trans (by simp))
    have g0 := fun z : Gr w6 => z.cell (show w6.cell? ⟨w5.heap.size + 1, 0, none⟩ = some (.int .i64 r) from (cell_of_row w6 _ 0 _ _ _ q6).trans (by simp))
    have g1 := fun z : Gr w6 => z.cell (show w6.cell? ⟨w5.heap.size + 1, 1, none⟩ = some (.int .i64 s) from (cell_of_row w6 _ 1 _ _ _ q6).trans (by simp))
    have hirr := lt_irrefl a b
    have e1 := fun W => (eq_pos p q p q W).trans (by simp : _ = Result.ok (.bool true) W)
    have e2 := fun W => (eq_pos r s r s W).trans (by simp : _ = Result.ok (.bool true) W)
    have HB := Lib.hid (hb04.trans (hb46.mono hb04.size))
    have HW6 := Lib.hid hw6
    clear hw6 hb6 hb46 p6 q6 a6 b6 x6 y6 hb04 a4 b4 x4 y4 hb5
    go_wp2_with fail
    rw [← HW6.out]
    refine wp_region_grow (by kernel_rfl) (by kernel_rfl) ?_
    repeat (go_big_quiet_step (first
      | (go_at_call 10; exact Calls.grow_of (less_any _ _ _ _ _))
      | (go_at_call 11; exact Calls.grow_of (less5_any _ _ _ _ _))))
    refine wpQuiet_nil ?_
    rintro _ ⟨⟨X5, hX5⟩, rfl⟩
    go_wp2
    go_ret
    exact ⟨rfl, HB.out.trans (hX5.mono HB.out.size)⟩

end Go.Proofs.Ytangoodeoieeiaa.SOrd
