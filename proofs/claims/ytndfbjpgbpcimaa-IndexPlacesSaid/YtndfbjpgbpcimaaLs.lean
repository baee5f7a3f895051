/-
  Indexes of lines: the search; At.
-/
import Derived.Test.YtndfbjpgbpcimaaLx
import Derived.Shelf.SlSorted.Search
import Derived.Laws.ResultCell
set_option linter.unusedVariables false
namespace Go.Proofs.Ytndfbjpgbpcimaa.Lx
open Go Go.RowKit Go.Proofs.Ytndfbjpgbpcimaa.Vk Go.Proofs.Ytndfbjpgbpcimaa.Lm Go.Shelf Go.Sort Go.Lib
open VecI (E)

/-- The numbers of sort.Search and its types here. -/
def search_ren : Go.Shelf.Ren := ⟨fun | 16 => 29 | n => n, fun | 3 => 3 | 35 => 61 | 4 => 4 | 38 => 64 | n => n, fun | n => n⟩
theorem search : Go.Proofs.SlLaysO.n16 Try.prog search_ren := {
  mixed := by kernel_rfl
  f16 := Try.func29.trans (congrArg some (by kernel_rfl))
  t3 := Try.underlying3
  a3 := Try.isAgg3
  z3 := Try.sizeOf3
  v3 := Try.zeroValue3
  t4 := Try.underlying4
  a4 := Try.isAgg4
  z4 := Try.sizeOf4
  v4 := Try.zeroValue4
  t35 := Try.underlying61
  a35 := Try.isAgg61
  z35 := Try.sizeOf61
  v35 := Try.zeroValue61
  t38 := Try.underlying64
  a38 := Try.isAgg64
  z38 := Try.sizeOf64
  v38 := Try.zeroValue64 }

variable {w w' : World} {base p q : Nat} {r : Option Nat} {zs : List Int} {size : Int}

/-- The closure that is handed to the search. -/
theorem after_fn (h : Ix w base p q r zs size) (bx bo k : Nat) (off : Int) (hn : zs.length ≤ 1000000) (hk : k < zs.length) (hx : w.cell? ⟨bx, 0, none⟩ = some (.pointer (some ⟨p, 0, none⟩))) (ho : w.cell? ⟨bo, 0, none⟩ = some (.int .i64 off)) :
    Calls Try.prog 30 (#[.int .i64 k] ++ #[.pointer (some ⟨bx, 0, none⟩), .pointer (some ⟨bo, 0, none⟩)]) w fun e w' => e = .returned (.bool (decide (off < zs.getD k 0))) ∧ w' = w := by
  have hst := start_in h k hk hn
  generalize zs.getD k 0 = z at *
  go_enter Try.func30, Try.ntmps30
  go_wp2_with (go_at_call 13; refine hst.mono ?_; rintro e w' ⟨rfl, rfl⟩)
  go_ret
  exact ⟨by simp, rfl⟩

/-- The number of the first line behind off: of a row of lines as a text's (what holds of a head of m does not hold behind it). -/
theorem after_any (h : Ix w base p q r zs size) (off : Int) (m : Nat) (hn : zs.length ≤ 1000000) (hm : m ≤ zs.length) (hcut : ∀ j, j < zs.length → (zs.getD j 0 ≤ off ↔ j < m)) :
    Calls Try.prog 22 #[.pointer (some ⟨p, 0, none⟩), .int .i64 off] w fun e w' => e = .returned (.int .i64 m) ∧ Below w.heap.size w w' := by
  obtain ⟨W, hW⟩ : ∃ W, W = (w.alloc (.cells #[.pointer (some ⟨p, 0, none⟩)] 24)).alloc (.cells #[.int .i64 off] 3) := ⟨_, rfl⟩
  have hbW : Below w.heap.size w W := by rw [hW]; exact ((Below.refl _ w).alloc (Nat.le_refl _) _).alloc (by simp) _
  have hsz : W.heap.size = w.heap.size + 2 := by rw [hW]; simp
  have hx := h.below hbW
  have cx : W.cell? ⟨w.heap.size, 0, none⟩ = some (.pointer (some ⟨p, 0, none⟩)) := by rw [hW]; exact cell_alloc_sl _ (cell_new_sl w _ _)
  have co : W.cell? ⟨w.heap.size + 1, 0, none⟩ = some (.int .i64 off) := by rw [hW]; have := cell_new_sl (w.alloc (.cells #[.pointer (some ⟨p, 0, none⟩)] 24)) (.int .i64 off) 3; rwa [World.size_alloc] at this
  have eg : ∀ args w, (callFunc 30 args).run Try.prog w = .ok (.enter 30 args) w := enters_of Try.func30 (by kernel_rfl) rfl
  have hS := Any.sort_Search search 30 #[.pointer (some ⟨w.heap.size, 0, none⟩), .pointer (some ⟨w.heap.size + 1, 0, none⟩)] zs.length (fun j => decide (off < zs.getD j 0)) W eg (by omega)
    (fun m os i hi => (after_fn (hx.below (below_grown_sl _ _ _ _ (Nat.le_refl _))) w.heap.size (w.heap.size + 1) i off hn hi (cell_grown (by rw [hsz]; simp) cx m os) (cell_grown (by rw [hsz]; simp) co m os)).mono fun _ _ ⟨he, hw⟩ => ⟨he, 0, #[], by rw [hw, grow_empty]; rfl⟩)
    (fun a b hab hb ha => by
      have h1 := hcut a (by omega)
      have h2 := hcut b hb
      simp only [decide_eq_true_eq] at ha ⊢
      omega)
  rw [countP_head zs.length m _ hm (fun j hj => by rw [← hcut j hj]; simp)] at hS
  change Calls Try.prog 29 _ _ _ at hS
  have hln := lines_any hx
  clear hcut
  rw [hW] at hS hln
  go_enter Try.func22, Try.ntmps22
  go_wp2_with (first | (go_at_call 17; refine hln.mono ?_; rintro e w' ⟨rfl, rfl⟩) | (go_at_call 29; refine hS.mono ?_; rintro e w' ⟨rfl, nq, os, rfl⟩))
  go_ret
  refine ⟨rfl, ?_⟩
  rw [← hW]
  exact hbW.trans (below_grown_sl w.heap.size W nq os (by omega))

/-- At of a place that isn't there. -/
theorem at_out (h : Ix w base p q r zs size) (off : Int) (hs0 : 0 ≤ size) (hs : size ≤ 9223372036854775807) (hno : ¬ (0 ≤ off ∧ off ≤ size)) :
    Calls Try.prog 16 #[.pointer (some ⟨p, 0, none⟩), .int .i64 off] w fun e w' => e = .returned (.tuple #[.agg #[.int .i64 0, .int .i64 0], .bool false]) ∧ Below w.heap.size w w' := by
  obtain ⟨W, hW⟩ : ∃ W, W = w.alloc (.cells #[.int .i64 0, .int .i64 0] 33) := ⟨_, rfl⟩
  have hbW : Below w.heap.size w W := by rw [hW]; exact (Below.refl _ w).alloc (Nat.le_refl _) _
  have hh := has_any (h.below hbW) off 0 hs0 hs
  rw [decide_eq_false (by omega), hW] at hh
  clear h
  go_enter Try.func16, Try.ntmps16
  go_wp2_with fail
  refine hh.mono ?_
  rintro e w' ⟨rfl, rfl⟩
  go_wp2
  (try simp only [Exit.inBlock, Exit.then])
  refine bodyPost_ret (v := .tuple #[.agg #[.int .i64 0, .int .i64 0], .bool false]) ?_ rfl ⟨rfl, ?_⟩
  · rw [results_cell_tmp rfl]
    go_simp
  · rw [← hW]
    exact hbW

/-- At of a place that is there. -/
theorem at_in (h : Ix w base p q r zs size) (off : Int) (m : Nat) (hn : zs.length ≤ 1000000) (hm : m + 1 ≤ zs.length) (hcut : ∀ j, j < zs.length → (zs.getD j 0 ≤ off ↔ j < m + 1)) (hz0 : 0 ≤ zs.getD m 0) (hs : size ≤ 1000000000) (h0 : 0 ≤ off) (h1 : off ≤ size) :
    Calls Try.prog 16 #[.pointer (some ⟨p, 0, none⟩), .int .i64 off] w fun e w' => e = .returned (.tuple #[.agg #[.int .i64 m, .int .i64 (off - zs.getD m 0)], .bool true]) ∧ Below w.heap.size w w' := by
  obtain ⟨W, hW⟩ : ∃ W, W = w.alloc (.cells #[.int .i64 0, .int .i64 0] 33) := ⟨_, rfl⟩
  have hbW : Below w.heap.size w W := by rw [hW]; exact (Below.refl _ w).alloc (Nat.le_refl _) _
  have hbb : W.heap[w.heap.size]? = some (.cells #[.int .i64 0, .int .i64 0] 33 (0, 0)) := by rw [hW]; exact heap_alloc_new w _
  have hx := h.below hbW
  have hh := has_any hx off 0 (by omega) (by omega)
  have ha := after_any hx off (m + 1) hn hm hcut
  rw [decide_eq_true (by omega), hW] at hh
  rw [hW] at ha
  have hle := (hcut m (by omega)).2 (by omega)
  obtain ⟨z, hz⟩ : ∃ z, zs.getD m 0 = z := ⟨_, rfl⟩
  rw [hz] at hle hz0 ⊢
  have HZ := Lib.hid hz
  clear h hcut hz
  go_enter Try.func16, Try.ntmps16
  go_wp2_with fail
  refine hh.mono ?_
  rintro e w' ⟨rfl, rfl⟩
  go_wp2_with fail
  refine ha.mono ?_
  rintro e w1 ⟨rfl, hb1⟩
  rw [← hW] at hb1
  have hst := start_in (hx.below hb1) m (by omega) hn
  have hbb1 := (hb1.block _ (by have := (Array.getElem?_eq_some_iff.1 hbb).1; omega)).trans hbb
  rw [HZ.out] at hst
  have c0 : w1.cell? ⟨w.heap.size, 0, none⟩ = some (.int .i64 0) := (cell_of_row _ _ 0 _ _ _ hbb1).trans (by simp)
  have c1 : w1.cell? ⟨w.heap.size, 1, none⟩ = some (.int .i64 0) := (cell_of_row _ _ 1 _ _ _ hbb1).trans (by simp)
  have f0 : w1.frozen? ⟨w.heap.size, 0, none⟩ = false := frozen_of_row _ _ 0 _ _ hbb1
  have f1 : w1.frozen? ⟨w.heap.size, 1, none⟩ = false := frozen_of_row _ _ 1 _ _ hbb1
  have hw1 : IntKind.i64.wrap (((m + 1 : Nat) : Int) - 1) = m := by rw [IntKind.wrap_i64]; omega
  have hw2 : IntKind.i64.wrap (off - z) = off - z := by rw [IntKind.wrap_i64]; omega
  have HB := Lib.hid hb1
  have HBB := Lib.hid hbb1
  clear hb1 hbb1 ha hh hbb
  go_wp2_with fail
  refine hst.mono ?_
  rintro e w' ⟨rfl, rfl⟩
  go_wp2
  (try simp only [Exit.inBlock, Exit.then])
  refine bodyPost_ret (v := .tuple #[.agg #[.int .i64 m, .int .i64 (off - z)], .bool true]) ?_ rfl ⟨rfl, ?_⟩
  · rw [results_cell_tmp rfl]
    go_simp
  · have hb2 : Below w.heap.size w w1 := hbW.trans (HB.out.mono hbW.size)
    exact (((Fr.ofBelow hb2 (fun _ => False)).setCell (fun h => absurd h (Nat.lt_irrefl _)) _).setCell (fun h => absurd h (Nat.lt_irrefl _)) _).below (Nat.le_refl _) (by simp)

end Go.Proofs.Ytndfbjpgbpcimaa.Lx
