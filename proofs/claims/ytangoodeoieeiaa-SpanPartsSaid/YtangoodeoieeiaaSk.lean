/-
  The chapter's example (the help `known` of layer 6's laws).
-/
import Derived.Test.YtangoodeoieeiaaSt
set_option linter.unusedVariables false
set_option linter.unusedSimpArgs false
set_option maxRecDepth 100000
namespace Go.Proofs.Ytangoodeoieeiaa.So
open Go Go.RowKit Go.Proofs.Ytangoodeoieeiaa.Vk Go.Proofs.Ytangoodeoieeiaa.Str Go.Proofs.Ytangoodeoieeiaa.Ln Go.Proofs.Ytangoodeoieeiaa.Cl
attribute [local go_sem] Oper.semAt_some

abbrev exl : List ByteArray := [⟨#[97, 98]⟩, ⟨#[99, 100]⟩]
theorem exl_size : ∀ s ∈ exl, s.size ≤ 140737488355328 := by
  intro s hs
  simp only [exl, List.mem_cons, List.not_mem_nil, or_false] at hs
  rcases hs with rfl | rfl <;> decide

theorem cell_two {w : World} {p : Addr} {v : Value} (h : w.cell? p = some v) (O O' : Obj) : ((w.alloc O).alloc O').cell? p = some v :=
  cell_later (((Below.refl _ w).alloc (Nat.le_refl _) O).alloc (by simp) O') h
theorem cell_one {w : World} {p : Addr} {v : Value} (h : w.cell? p = some v) (O : Obj) : (w.alloc O).cell? p = some v :=
  cell_later ((Below.refl _ w).alloc (Nat.le_refl _) O) h

set_option maxHeartbeats 4000000 in
theorem known_any (w : World) : Calls Try.prog 7 #[] w fun e w' => e = .returned (.bool true) ∧ Below w.heap.size w w' := by
  obtain ⟨w0, hw0⟩ : ∃ w0, w0 = (w.alloc (.cells #[.string ⟨#[97, 98]⟩, .string ⟨#[99, 100]⟩] 9)).alloc (.cells #[.int .i64 0, .int .i64 0, .int .i64 1, .int .i64 1, .int .i64 1] 40) := ⟨_, rfl⟩
  have hb0 : Below w.heap.size w w0 := by rw [hw0]; exact two_below _ _ _
  have hz0 : w0.heap.size = w.heap.size + 2 := by rw [hw0]; simp
  have s0 : Ss w0 (some ⟨w.heap.size, 0, none⟩) 2 2 exl := by
    rw [hw0]
    exact SrcV.below (SrcV.lit w #[.string ⟨#[97, 98]⟩, .string ⟨#[99, 100]⟩] 9 2 rfl (by simp [Value.oneCell']) (by simp [maxLen])) ((Below.refl _ _).alloc (Nat.le_refl _) _)
  have r0 : w0.heap[w.heap.size + 1]? = some (.cells #[.int .i64 0, .int .i64 0, .int .i64 1, .int .i64 1, .int .i64 1] 40 (0, 0)) := by rw [hw0]; exact two_new w _ _
  have h1 := order_any 1 0 0 0 w0
  rw [show lt 0 0 1 0 = true from by decide +kernel, if_pos rfl] at h1
  have HW0 := Lib.hid hw0
  have H0 := Lib.hid (And.intro hb0 (And.intro s0 r0))
  clear hw0 hb0 s0 r0
  go_enter Try.func7, Try.ntmps7
  go_wp2_with fail
  rw [← HW0.out]
  refine h1.mono ?_
  rintro e w1 ⟨rfl, hb1⟩
  clear h1
  obtain ⟨hb0, s0, r0⟩ := H0.out
  obtain ⟨w2, hw2⟩ : ∃ w2, w2 = (w1.alloc (.cells #[.int .i64 0, .int .i64 0] 23)).alloc (.cells #[.int .i64 1, .int .i64 0] 23) := ⟨_, rfl⟩
  have hb2 : Below w1.heap.size w1 w2 := by rw [hw2]; exact two_below _ _ _
  have hb02 := hb1.trans (hb2.mono hb1.size)
  have s2 := SrcV.below s0 hb02
  have r2 := (hb02.block _ (by omega)).trans r0
  have a2 : w2.heap[w1.heap.size]? = some (.cells #[.int .i64 0, .int .i64 0] 23 (0, 0)) := by rw [hw2]; exact (Below.heap_alloc _ _ _ (by simp)).trans (heap_alloc_new w1 _)
  have b2 : w2.heap[w1.heap.size + 1]? = some (.cells #[.int .i64 1, .int .i64 0] 23 (0, 0)) := by rw [hw2]; exact two_new w1 _ _
  have hz2 : w2.heap.size = w1.heap.size + 2 := by rw [hw2]; simp
  have hz1 := hb1.size
  have r1 := (hb1.block _ (by omega)).trans r0
  have c0 := cell_two (show w1.cell? ⟨w.heap.size + 1, 0, none⟩ = some (.int .i64 0) from (cell_of_row w1 _ 0 _ _ _ r1).trans (by simp))
  have c1 := cell_two (show w1.cell? ⟨w.heap.size + 1, 1, none⟩ = some (.int .i64 0) from (cell_of_row w1 _ 1 _ _ _ r1).trans (by simp))
  have c2 := cell_two (show w1.cell? ⟨w.heap.size + 1, 2, none⟩ = some (.int .i64 1) from (cell_of_row w1 _ 2 _ _ _ r1).trans (by simp))
  have c3 := cell_two (show w1.cell? ⟨w.heap.size + 1, 3, none⟩ = some (.int .i64 1) from (cell_of_row w1 _ 3 _ _ _ r1).trans (by simp))
  have c4 := cell_two (show w1.cell? ⟨w.heap.size + 1, 4, none⟩ = some (.int .i64 1) from (cell_of_row w1 _ 4 _ _ _ r1).trans (by simp))
  have h3 := valid_any _ 2 2 exl 0 0 1 1 1 w2 s2 exl_size
  rw [show vld exl 0 0 1 1 1 = true from by decide +kernel] at h3
  have HW2 := Lib.hid hw2
  have H2 := Lib.hid (And.intro (hb0.trans (hb02.mono hb0.size)) (And.intro s2 (And.intro r2 (And.intro a2 b2))))
  clear hw2 hb0 s0 r0 hb2 hb02 s2 r2 a2 b2 hb1 H0 HW0 r1
  go_wp2_with fail
  rw [← HW2.out]
  refine h3.mono ?_
  rintro e w3 ⟨rfl, hb3⟩
  clear h3 c0 c1 c2 c3 c4
  obtain ⟨hb, s2, r2, a2, b2⟩ := H2.out
  have s3 := SrcV.below s2 hb3
  have r3 := (hb3.block _ (by omega)).trans r2
  have c0 : w3.cell? ⟨w.heap.size + 1, 0, none⟩ = some (.int .i64 0) := (cell_of_row w3 _ 0 _ _ _ r3).trans (by simp)
  have c1 : w3.cell? ⟨w.heap.size + 1, 1, none⟩ = some (.int .i64 0) := (cell_of_row w3 _ 1 _ _ _ r3).trans (by simp)
  have c2 : w3.cell? ⟨w.heap.size + 1, 2, none⟩ = some (.int .i64 1) := (cell_of_row w3 _ 2 _ _ _ r3).trans (by simp)
  have c3 : w3.cell? ⟨w.heap.size + 1, 3, none⟩ = some (.int .i64 1) := (cell_of_row w3 _ 3 _ _ _ r3).trans (by simp)
  have c4 : w3.cell? ⟨w.heap.size + 1, 4, none⟩ = some (.int .i64 1) := (cell_of_row w3 _ 4 _ _ _ r3).trans (by simp)
  have h4 := text_ok _ 2 2 exl 0 0 1 1 1 w3 s3 exl_size (by decide +kernel) (by omega)
  rw [show txt exl 0 0 1 1 1 = [⟨#[98]⟩, ⟨#[99]⟩] from by decide +kernel] at h4
  simp only [List.length_cons, List.length_nil, Nat.zero_add, Nat.reduceAdd] at h4
  have H3 := Lib.hid hb3
  have hz3 := hb3.size
  clear hb s2 r2 a2 b2 s3 r3 hb3
  go_wp2_with fail
  refine h4.mono ?_
  rintro e w4 ⟨b, cc, rfl, s4, hb4, hbl4⟩
  clear h4 c0 c1 c2 c3 c4
  obtain ⟨hb, s2, r2, a2, b2⟩ := H2.out
  obtain ⟨w5, hw5⟩ : ∃ w5, w5 = w4.alloc (.cells #[.string ⟨#[98]⟩, .string ⟨#[99]⟩] 9) := ⟨_, rfl⟩
  have hb5 : Below w4.heap.size w4 w5 := by rw [hw5]; exact (Below.refl _ _).alloc (Nat.le_refl _) _
  have s5 := SrcV.below s4 hb5
  have t5 : Ss w5 (some ⟨w4.heap.size, 0, none⟩) 2 2 [⟨#[98]⟩, ⟨#[99]⟩] := by
    rw [hw5]
    exact SrcV.lit w4 #[.string ⟨#[98]⟩, .string ⟨#[99]⟩] 9 2 rfl (by simp [Value.oneCell']) (by simp [maxLen])
  have h5 := strings_any _ 2 cc _ _ 2 2 _ w5 s5 t5
  rw [show decide ([(⟨#[98]⟩ : ByteArray), ⟨#[99]⟩] = [⟨#[98]⟩, ⟨#[99]⟩]) = true from by decide +kernel] at h5
  have hb25 := H3.out.trans ((hb4.trans (hb5.mono hb4.size)).mono H3.out.size)
  have HW5 := Lib.hid hw5
  have H5 := Lib.hid hb25
  clear hb s2 r2 a2 b2 hw5 hb5 s5 t5 s4 hb4 hbl4 hb25
  go_wp2_with fail
  rw [← HW5.out]
  refine h5.mono ?_
  rintro e w' ⟨rfl, m, hw6⟩
  clear h5
  obtain ⟨hb, s2, r2, a2, b2⟩ := H2.out
  have hb6 : Below w2.heap.size w2 w' := by rw [hw6]; exact H5.out.trans ((((Fr.refl (fun _ => False) w5).drewN m).below (Nat.le_refl _) (by simp)).mono H5.out.size)
  have a6 := (hb6.block _ (by omega)).trans a2
  have b6 := (hb6.block _ (by omega)).trans b2
  have c0 : w'.cell? ⟨w1.heap.size, 0, none⟩ = some (.int .i64 0) := (cell_of_row w' _ 0 _ _ _ a6).trans (by simp)
  have c1 : w'.cell? ⟨w1.heap.size, 1, none⟩ = some (.int .i64 0) := (cell_of_row w' _ 1 _ _ _ a6).trans (by simp)
  have c2 : w'.cell? ⟨w1.heap.size + 1, 0, none⟩ = some (.int .i64 1) := (cell_of_row w' _ 0 _ _ _ b6).trans (by simp)
  have c3 : w'.cell? ⟨w1.heap.size + 1, 1, none⟩ = some (.int .i64 0) := (cell_of_row w' _ 1 _ _ _ b6).trans (by simp)
  have h6 := less_any 0 0 1 0 w'
  rw [show lt 0 0 1 0 = true from by decide +kernel] at h6
  have H6 := Lib.hid hb6
  clear hb s2 r2 a2 b2 a6 b6 hb6 hw6
  go_wp2_with fail
  refine h6.mono ?_
  rintro e w7 ⟨rfl, hb7⟩
  clear h6 c0 c1 c2 c3
  have hb27 := H6.out.trans (hb7.mono H6.out.size)
  have h8 := valid_any _ 2 2 exl 0 0 0 5 0 w7 (SrcV.below H2.out.2.1 hb27) exl_size
  rw [show vld exl 0 0 0 5 0 = false from by decide +kernel] at h8
  have H7 := Lib.hid hb27
  clear hb27 hb7
  go_wp2_with fail
  refine h8.mono ?_
  rintro e w8 ⟨rfl, hb8⟩
  clear h8
  have hbw : Below w.heap.size w w8 := H2.out.1.trans ((H7.out.trans (hb8.mono H7.out.size)).mono H2.out.1.size)
  clear hb8
  go_wp2
  go_ret
  exact ⟨rfl, hbw⟩

end Go.Proofs.Ytangoodeoieeiaa.So
