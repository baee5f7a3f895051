/-
  Indexes of lines: the search; At.
-/
import Derived.Test.YtfllgmgipmmpkaaGreatDoorLx
import Derived.Shelf.SlSorted.Search
import Derived.Laws.ResultCell
set_option linter.unusedVariables false
set_option linter.unusedSimpArgs false
set_option maxRecDepth 100000
namespace Go.Proofs.YtfllgmgipmmpkaaGreatDoor.Lx
open Go Go.RowKit Go.Proofs.YtfllgmgipmmpkaaGreatDoor.Vk Go.Proofs.YtfllgmgipmmpkaaGreatDoor.Lm Go.Shelf Go.Sort Go.Lib
open VecI (E)

/-- The numbers of sort.Search and its types here. -/
def search_ren : Go.Shelf.Ren := ⟨fun | 16 => 87 | n => n, fun | 3 => 3 | 35 => 121 | 4 => 4 | 38 => 146 | n => n, fun | n => n⟩
theorem search : Go.Proofs.SlLaysO.n16 Tryz.prog search_ren := {
  mixed := by kernel_rfl
  f16 := Tryz.func87.trans (congrArg some (by kernel_rfl))
  t3 := Tryz.underlying3
  a3 := Tryz.isAgg3
  z3 := Tryz.sizeOf3
  v3 := Tryz.zeroValue3
  t4 := Tryz.underlying4
  a4 := Tryz.isAgg4
  z4 := Tryz.sizeOf4
  v4 := Tryz.zeroValue4
  t35 := Tryz.underlying121
  a35 := Tryz.isAgg121
  z35 := Tryz.sizeOf121
  v35 := Tryz.zeroValue121
  t38 := Tryz.underlying146
  a38 := Tryz.isAgg146
  z38 := Tryz.sizeOf146
  v38 := Tryz.zeroValue146 }

variable {w w' : World} {base p q : Nat} {r : Option Nat} {zs : List Int} {size : Int}

/-- The closure that is handed to the search. -/
theorem after_fn (h : Ix w base p q r zs size) (bx bo k : Nat) (off : Int) (hn : zs.length ≤ 1000000) (hk : k < zs.length) (hx : w.cell? ⟨bx, 0, none⟩ = some (.pointer (some ⟨p, 0, none⟩))) (ho : w.cell? ⟨bo, 0, none⟩ = some (.int .i64 off)) :
    Calls Tryz.prog 88 (#[.int .i64 k] ++ #[.pointer (some ⟨bx, 0, none⟩), .pointer (some ⟨bo, 0, none⟩)]) w fun e w' => e = .returned (.bool (decide (off < zs.getD k 0))) ∧ w' = w := by
  have hst := start_in h k hk hn
  generalize zs.getD k 0 = z at *
  go_enter Tryz.func88, Tryz.ntmps88
  go_wp2_with (go_at_call 30; refine hst.mono ?_; rintro e w' ⟨rfl, rfl⟩)
  go_ret
  exact ⟨by simp, rfl⟩

/-- The number of the first line behind off: of a row of lines as a text's (what holds of a head of m does not hold behind it). -/
theorem after_any (h : Ix w base p q r zs size) (off : Int) (m : Nat) (hn : zs.length ≤ 1000000) (hm : m ≤ zs.length) (hcut : ∀ j, j < zs.length → (zs.getD j 0 ≤ off ↔ j < m)) :
    Calls Tryz.prog 71 #[.pointer (some ⟨p, 0, none⟩), .int .i64 off] w fun e w' => e = .returned (.int .i64 m) ∧ Below w.heap.size w w' := by
  obtain ⟨W, hW⟩ : ∃ W, W = (w.alloc (.cells #[.pointer (some ⟨p, 0, none⟩)] 59)).alloc (.cells #[.int .i64 off] 3) := ⟨_, rfl⟩
  have hbW : Below w.heap.size w W := by rw [hW]; exact ((Below.refl _ w).alloc (Nat.le_refl _) _).alloc (by simp) _
  have hsz : W.heap.size = w.heap.size + 2 := by rw [hW]; simp
  have hx := h.below hbW
  have cx : W.cell? ⟨w.heap.size, 0, none⟩ = some (.pointer (some ⟨p, 0, none⟩)) := by rw [hW]; exact cell_alloc_sl _ (cell_new_sl w _ _)
  have co : W.cell? ⟨w.heap.size + 1, 0, none⟩ = some (.int .i64 off) := by rw [hW]; have := cell_new_sl (w.alloc (.cells #[.pointer (some ⟨p, 0, none⟩)] 59)) (.int .i64 off) 3; rwa [World.size_alloc] at this
  have eg : ∀ args w, (callFunc 88 args).run Tryz.prog w = .ok (.enter 88 args) w := enters_of Tryz.func88 (by kernel_rfl) rfl
  have hS := Any.sort_Search search 88 #[.pointer (some ⟨w.heap.size, 0, none⟩), .pointer (some ⟨w.heap.size + 1, 0, none⟩)] zs.length (fun j => decide (off < zs.getD j 0)) W eg (by omega)
    (fun m os i hi => (after_fn (hx.below (below_grown_sl _ _ _ _ (Nat.le_refl _))) w.heap.size (w.heap.size + 1) i off hn hi (cell_grown (by rw [hsz]; simp) cx m os) (cell_grown (by rw [hsz]; simp) co m os)).mono fun _ _ ⟨he, hw⟩ => ⟨he, 0, #[], by rw [hw, grow_empty]; rfl⟩)
    (fun a b hab hb ha => by
      have h1 := hcut a (by omega)
      have h2 := hcut b hb
      simp only [decide_eq_true_eq] at ha ⊢
      omega)
  rw [countP_head zs.length m _ hm (fun j hj => by rw [← hcut j hj]; simp)] at hS
  change Calls Tryz.prog 87 _ _ _ at hS
  have hln := lines_any hx
  clear hcut
  rw [hW] at hS hln
  go_enter Tryz.func71, Tryz.ntmps71
  go_wp2_with (first | (go_at_call 40; refine hln.mono ?_; rintro e w' ⟨rfl, rfl⟩) | (go_at_call 87; refine hS.mono ?_; rintro e w' ⟨rfl, nq, os, rfl⟩))
  go_ret
  refine ⟨rfl, ?_⟩
  rw [← hW]
  exact hbW.trans (below_grown_sl w.heap.size W nq os (by omega))

end Go.Proofs.YtfllgmgipmmpkaaGreatDoor.Lx
