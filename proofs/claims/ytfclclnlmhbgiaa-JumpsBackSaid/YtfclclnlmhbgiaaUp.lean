/-
  Places as plain lists: pairs of numbers, and their cells. No program in sight.
-/
import Derived.Test.YtfclclnlmhbgiaaPk
import Derived.Test.YtfclclnlmhbgiaaMl
set_option linter.unusedVariables false
set_option linter.unusedSimpArgs false
set_option maxRecDepth 100000
namespace Go.Proofs.Ytfclclnlmhbgiaa.Ps
open Go Go.RowKit Go.Proofs.Ytfclclnlmhbgiaa.Vk Go.Proofs.Ytfclclnlmhbgiaa.Ml

def pv (p : P2) : Value := .agg #[.int .i64 p.1, .int .i64 p.2]
def pc (p : P2) : List Value := [.int .i64 p.1, .int .i64 p.2]
/-- The cells of some places. -/
def flat (l : List P2) : List Value := l.flatMap pc
theorem flat_nil : flat [] = [] := rfl
theorem flat_append (a b : List P2) : flat (a ++ b) = flat a ++ flat b := by simp [flat]
theorem flat_one (x : P2) : flat [x] = [.int .i64 x.1, .int .i64 x.2] := rfl
theorem flat_cons (x : P2) (l : List P2) : flat (x :: l) = pc x ++ flat l := rfl
theorem flat_length : ∀ l : List P2, (flat l).length = l.length * 2
  | [] => rfl
  | x :: l => by rw [flat_cons, List.length_append, flat_length l]; simp [pc]; omega
theorem flat_cells (l : List P2) : ∀ u ∈ flat l, u.oneCell' = true := by
  intro u hu
  obtain ⟨x, _, hx⟩ := List.mem_flatMap.1 hu
  simp only [pc, List.mem_cons, List.not_mem_nil, or_false] at hx
  rcases hx with rfl | rfl <;> rfl
theorem flat_take (l : List P2) (i : Nat) (hi : i ≤ l.length) : (flat l).take (i * 2) = flat (l.take i) := by
  conv => lhs; rw [← List.take_append_drop i l, flat_append]
  exact List.take_left' (by rw [flat_length, List.length_take]; omega)
theorem flat_drop (l : List P2) (i : Nat) (hi : i ≤ l.length) : (flat l).drop (i * 2) = flat (l.drop i) := by
  conv => lhs; rw [← List.take_append_drop i l, flat_append]
  exact List.drop_left' (by rw [flat_length, List.length_take]; omega)
theorem flat_at (l : List P2) (k : Nat) (p : P2) (h : l[k]? = some p) : (flat l)[k * 2]? = some (.int .i64 p.1) ∧ (flat l)[k * 2 + 1]? = some (.int .i64 p.2) := by
  obtain ⟨hlt, hp⟩ := List.getElem?_eq_some_iff.1 h
  have hd := flat_drop l k (by omega)
  rw [List.drop_eq_getElem_cons hlt, hp, flat_cons] at hd
  have g : ∀ j, (flat l)[k * 2 + j]? = (pc p ++ flat (l.drop (k + 1)))[j]? := fun j => by rw [← hd, List.getElem?_drop]
  exact ⟨by have := g 0; simpa [pc] using this, by have := g 1; simpa [pc] using this⟩
theorem SrcV.pos (w : World) (x y : Int) (t : TypeId) : SrcV (w.alloc (.cells #[.int .i64 x, .int .i64 y] t)) 2 (.slice (some ⟨w.heap.size, 0, none⟩) 1 1) 1 [.int .i64 x, .int .i64 y] := by
  refine ⟨rfl, by simp [Value.oneCell'], by simp [maxLen], .inr ⟨w.heap.size, 0, 1, rfl, Nat.le_refl _, by simp [maxLen], fun j u hu => ?_⟩⟩
  rw [Nat.zero_add, cell_of_row _ _ j _ _ _ (heap_alloc_new w _)]
  simpa using hu
end Go.Proofs.Ytfclclnlmhbgiaa.Ps
