/-
  The law MarksShift, walked.
-/
import Derived.Test.YtmmmaadhbmgciaaMe
set_option linter.unusedVariables false
set_option linter.unusedSimpArgs false
set_option maxRecDepth 100000
namespace Go.Proofs.Ytmmmaadhbmgciaa.MShift
open Go Go.RowKit Go.Proofs.Ytmmmaadhbmgciaa.Vk Go.Proofs.Ytmmmaadhbmgciaa.Str Go.Proofs.Ytmmmaadhbmgciaa.Ln Go.Proofs.Ytmmmaadhbmgciaa.Cl Go.Proofs.Ytmmmaadhbmgciaa.Ml Go.Proofs.Ytmmmaadhbmgciaa.Mk
attribute [local go_sem] Oper.semAt_some

theorem walk (l a o n : Int) (w : World) (wl : (Lit.int .i64 l).wf = true) (wa : (Lit.int .i64 a).wf = true) (wo : (Lit.int .i64 o).wf = true) (wn : (Lit.int .i64 n).wf = true) :
    Calls Try.prog 3 #[.int .i64 l, .int .i64 a, .int .i64 o, .int .i64 n] w fun e w' => e = .returned (.bool true) ∧ Below w.heap.size w w' := by
  have hk := known_any w
  go_enter Try.func3, Try.ntmps3
  go_wp2_with fail
  refine hk.mono ?_
  rintro e w1 ⟨rfl, hb1⟩
  clear hk
  have HB := Lib.hid hb1
  clear hb1
  go_wp2_with fail
  have t1 := Int.tmod_lt_of_pos l (b := 1073741824) (by omega)
  have t2 := Int.lt_tmod_of_pos l (b := 1073741824) (by omega)
  have t3 := Int.tmod_lt_of_pos (l.tmod 1073741824) (b := 40) (by omega)
  have t4 := Int.lt_tmod_of_pos (l.tmod 1073741824) (b := 40) (by omega)
  have hl1 : -1073741824 ≤ l.tmod 1073741824 ∧ l.tmod 1073741824 ≤ 1073741824 := by omega
  have hl2 : -1073741824 ≤ (l.tmod 1073741824).tmod 40 ∧ (l.tmod 1073741824).tmod 40 ≤ 1073741824 := by omega
  obtain ⟨w2, hw2⟩ : ∃ w2, w2 = w1.alloc (.cells #[.int .i64 (l.tmod 1073741824), .int .i64 a, .int .i64 o, .int .i64 n, .int .i64 ((l.tmod 1073741824).tmod 40), .int .i64 (a.tmod 20), .int .i64 (o.tmod 10), .int .i64 (n.tmod 10)] 23) := ⟨_, rfl⟩
  have hb2 : Below w1.heap.size w1 w2 := by rw [hw2]; exact (Below.refl _ _).alloc (Nat.le_refl _) _
  have hrow : w2.heap[w1.heap.size]? = some (.cells #[.int .i64 (l.tmod 1073741824), .int .i64 a, .int .i64 o, .int .i64 n, .int .i64 ((l.tmod 1073741824).tmod 40), .int .i64 (a.tmod 20), .int .i64 (o.tmod 10), .int .i64 (n.tmod 10)] 23 (0, 0)) := by rw [hw2]; exact heap_alloc_new w1 _
  have HX : Hid (∀ k, k < 2 → ∃ x0 x1 x2 x3 : Int, w2.cell? ⟨w1.heap.size, k * 4, none⟩ = some (.int .i64 x0) ∧ w2.cell? ⟨w1.heap.size, k * 4 + 1, none⟩ = some (.int .i64 x1) ∧ w2.cell? ⟨w1.heap.size, k * 4 + 2, none⟩ = some (.int .i64 x2) ∧
      w2.cell? ⟨w1.heap.size, k * 4 + 3, none⟩ = some (.int .i64 x3) ∧ -1073741824 ≤ x0 ∧ x0 ≤ 1073741824) := fun k hk => by
    obtain rfl | rfl : k = 0 ∨ k = 1 := by omega
    · exact ⟨_, _, _, _, (cell_of_row w2 _ 0 _ _ _ hrow).trans rfl, (cell_of_row w2 _ 1 _ _ _ hrow).trans rfl, (cell_of_row w2 _ 2 _ _ _ hrow).trans rfl, (cell_of_row w2 _ 3 _ _ _ hrow).trans rfl, hl1.1, hl1.2⟩
    · exact ⟨_, _, _, _, (cell_of_row w2 _ 4 _ _ _ hrow).trans rfl, (cell_of_row w2 _ 5 _ _ _ hrow).trans rfl, (cell_of_row w2 _ 6 _ _ _ hrow).trans rfl, (cell_of_row w2 _ 7 _ _ _ hrow).trans rfl, hl2.1, hl2.2⟩
  rw [← hw2]
  have HB := Lib.hid (below_on HB.out hb2)
  obtain ⟨g, hg⟩ : ∃ g, g = w1.heap.size := ⟨_, rfl⟩
  rw [← hg] at HX ⊢
  clear hw2 hb2 hrow hl1 hl2 t1 t2 t3 t4 hg wl wa wo wn
  go_loopw [35] (fun i wr => ∃ k : Nat, k ≤ 2 ∧ i = .int .i64 k ∧ Hid (Below w2.heap.size w2 wr)) (fun i _ => 2 - (RowKit.intOf i).toNat)
  case atStart => exact ⟨0, by omega, rfl, Below.refl _ _⟩
  case round =>
    obtain ⟨k, hk2, rfl, D⟩ := hrel
    by_cases hk : k < 2
    rotate_left
    · obtain rfl : k = 2 := by omega
      go_wp2
      go_ret
      exact ⟨rfl, below_on HB.out D.out⟩
    obtain ⟨x0, x1, x2, x3, h0, h1, h2, h3, hx0, hx1⟩ := HX.out k hk
    have h0 := cell_later D.out h0
    have h1 := cell_later D.out h1
    have h2 := cell_later D.out h2
    have h3 := cell_later D.out h3
    have hs1 := fun W => shift_any x0 x1 x2 x3 W (by omega)
    have hs2 := fun W => shift13_any x0 x1 x2 x3 W (by omega)
    unfold shV at hs1 hs2
    obtain ⟨p, hp⟩ : ∃ p, p = (shf x0 x1 x2 x3).getD 0 := ⟨_, rfl⟩
    obtain ⟨q, hq⟩ : ∃ q, q = (shf x0 x1 x2 x3).isSome := ⟨_, rfl⟩
    rw [← hp, ← hq] at hs1 hs2
    clear hp hq hx0 hx1
    go_wp2_with fail
    refine (hs1 _).mono ?_
    rintro e w' ⟨rfl, rfl⟩
    go_wp2_with fail
    refine (hs2 _).mono ?_
    rintro e w' ⟨rfl, rfl⟩
    clear hs1 hs2
    go_wp2
    go_roundw
    case rel => exact ⟨k + 1, by omega, by go_num, D.out.alloc D.out.size _⟩
    case measure => simp [RowKit.intOf]; omega
end Go.Proofs.Ytmmmaadhbmgciaa.MShift
