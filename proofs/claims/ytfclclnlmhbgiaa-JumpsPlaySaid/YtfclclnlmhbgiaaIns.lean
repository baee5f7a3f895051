/-
  slices.Insert and slices.Delete over rows that the call owns: laws of my own on copies within an owned row, and on slices.overlaps against an owned row.
-/
import Derived.Test.YtfclclnlmhbgiaaKit
import Derived.Lib.Overlaps
import Derived.Laws.IdiomCopy
import Derived.Lib.Hide
set_option linter.unusedVariables false
set_option linter.unusedSimpArgs false
set_option maxRecDepth 100000
namespace Go.Proofs.Ytfclclnlmhbgiaa.Vk
open Go Go.RowKit

theorem cell_shape {w : World} {a : Addr} {v : Value} (h : w.cell? a = some v) : ∃ t k, w.shape? a.block = some (t, k + 1) := by
  unfold World.cell? at h
  unfold World.shape?
  revert h
  cases w.heap[a.block]? with
  | none => simp
  | some o =>
    cases o with
    | cells c elem fz =>
      simp only
      split
      · simp
      · intro h
        have := (Array.getElem?_eq_some_iff.1 h).1
        exact ⟨elem, c.size - 1, by simp; omega⟩
    | _ => simp

/-- slices.overlaps of anything against a row that the call owns, in another block: false. -/
theorem run_overlaps_own {P : Program} (w : World) (tS tR e : TypeId) (ht : P.underlying tS = some (.slice e)) (size : Nat) (hz : ∀ w, (Go.sizeOf e).run P w = .ok size w)
    (a : Addr) (g boff : Nat) (la ca lb cb : Nat) (hne : a.block ≠ g) (u : Value) (hua : w.cell? a = some u) (cur : Array Value) (tB : TypeId) (hg : w.heap[g]? = some (.cells cur tB (0, 0))) :
    (Extern.SlicesOverlaps.overlaps #[tS, tS] #[tR] #[.slice (some a) la ca, .slice (some ⟨g, boff, none⟩) lb cb]).run P w = .ok (.bool false) w := by
  have hnb : (a.block != g) = true := by simpa using hne
  have hnb' : (a.block == g) = false := by simpa using hne
  obtain ⟨tA, kA, hsa⟩ := cell_shape hua
  have hsb : w.shape? g = some (tB, cur.size) := by simp [World.shape?, hg]
  have hfb : ∀ o, w.frozen? ⟨g, o, none⟩ = false := fun o => by simp [World.frozen?, hg]
  refine (Sem.run_bind P w (underlying tS) _).trans ?_
  rw [run_underlying ht]
  by_cases h0 : la = 0 ∨ lb = 0 ∨ size = 0
  · simp [run_underlying ht, hz, h0]
  · cases hfa : w.frozen? a <;> cases hfe : w.frozen? { block := a.block, off := kA + 1 } <;>
      simp [run_underlying ht, hz, h0, hnb, hnb', frozen, noView, viewAt, mayBeOne, stringish, shape, Sem.run, hsa, hsb, hfa, hfe, hfb]

/-- Cells laid over a row, one behind another, within it. -/
theorem setCells_heap (g : Nat) : ∀ (vs : List Value) (o : Nat) (w : World) (cur : Array Value) (e : TypeId), w.heap[g]? = some (.cells cur e (0, 0)) → o + vs.length ≤ cur.size →
    (w.setCells g o vs).heap[g]? = some (.cells (splice cur.toList o vs).toArray e (0, 0))
  | [], o, w, cur, e, h, _ => by simpa [World.setCells, splice] using h
  | v :: r, o, w, cur, e, h, hl => by
    rw [World.setCells]
    rw [setCells_heap g r (o + 1) (w.setCell ⟨g, o, none⟩ v) (cur.setIfInBounds o v) e (heap_setCell_same w g o cur e v h) (by simp at hl ⊢; omega)]
    congr 3
    simp only [splice, List.length_cons] at hl ⊢
    have ho : o < cur.toList.length := by simp; omega
    rw [Array.toList_setIfInBounds, List.take_succ_eq_append_getElem (by simpa using ho)]
    simp
    rw [show o + (r.length + 1) = o + 1 + r.length by omega]
    rw [List.drop_set_of_lt (by omega), List.take_set, List.set_eq_of_length_le (by simp; omega)]

theorem setCells_other (g : Nat) : ∀ (vs : List Value) (o : Nat) (w : World) (k : Nat), k ≠ g → (w.setCells g o vs).heap[k]? = w.heap[k]?
  | [], o, w, k, h => rfl
  | v :: r, o, w, k, h => by
    rw [World.setCells, setCells_other g r _ _ k h]
    exact heap_setCell_other w ⟨g, o, none⟩ k v h

theorem setCells_rest (g : Nat) : ∀ (vs : List Value) (o : Nat) (w : World), (w.setCells g o vs).os = w.os ∧ (w.setCells g o vs).tape = w.tape ∧ (w.setCells g o vs).output = w.output ∧ (w.setCells g o vs).heap.size = w.heap.size
  | [], o, w => ⟨rfl, rfl, rfl, rfl⟩
  | v :: r, o, w => by
    rw [World.setCells]
    have := setCells_rest g r (o + 1) (w.setCell ⟨g, o, none⟩ v)
    exact ⟨this.1, this.2.1, this.2.2.1, by rw [this.2.2.2]; simp [World.setCell]⟩

theorem grownBy_setCells (w : World) (g : Nat) (vs : List Value) (o : Nat) : w.grownBy (w.setCells g o vs) (some g) := by
  have h := setCells_rest g vs o w
  exact ⟨h.1, h.2.1, h.2.2.1, by rw [h.2.2.2]; exact Nat.le_refl _, fun k _ hk => setCells_other g vs o w k (fun e => hk (by rw [e]))⟩

/-- What stands from i on is moved m up, and the m new ones are laid at i. -/
theorem shift_list {α : Type} (cur xs news : List α) (n m i : Nat) (hc : n + m ≤ cur.length) (ht : cur.take n = xs) (hm : news.length = m) (hi : i ≤ n) :
    (splice (splice cur (i + m) (xs.drop i)) i news).take (n + m) = xs.take i ++ news ++ xs.drop i := by
  have hx : xs.length = n := by rw [← ht, List.length_take]; omega
  have hl : (cur.take (i + m)).length = i + m := by rw [List.length_take]; omega
  have e1 : (splice cur (i + m) (xs.drop i)).take i = xs.take i := by
    unfold splice
    rw [List.take_append_of_le_length (by omega), List.take_take, ← ht, List.take_take, Nat.min_eq_left (by omega), Nat.min_eq_left (by omega)]
  have e2 : (splice cur (i + m) (xs.drop i)).drop (i + m) = xs.drop i ++ cur.drop (i + m + (xs.drop i).length) := by
    unfold splice
    rw [List.drop_left' hl]
  have e3 : splice (splice cur (i + m) (xs.drop i)) i news = (xs.take i ++ news ++ xs.drop i) ++ cur.drop (i + m + (xs.drop i).length) := by
    conv => lhs; unfold splice
    rw [show splice cur (i + m) (xs.drop i) = splice cur (i + m) (xs.drop i) from rfl] at e1 e2
    unfold splice at e1 e2
    rw [e1, hm, e2]
    simp
  rw [e3]
  exact List.take_left' (by simp [hm, hx]; omega)

/-- A new row, filled: what stood ahead of i is there; the new ones are laid at i, and what stood from i on behind them. -/
theorem grow_list {α : Type} (row xs news : List α) (n m i : Nat) (hc : n + m ≤ row.length) (ht : row.take i = xs.take i) (hx : xs.length = n) (hm : news.length = m) (hi : i ≤ n) :
    (splice (splice row i news) (i + m) (xs.drop i)).take (n + m) = xs.take i ++ news ++ xs.drop i := by
  have e1 : (splice row i news).take (i + m) = xs.take i ++ news := by
    unfold splice
    rw [ht, ← List.append_assoc]
    exact List.take_left' (by simp [hm, hx]; omega)
  conv => lhs; unfold splice
  unfold splice at e1
  rw [e1, ← List.append_assoc]
  exact List.take_left' (by simp [hm, hx]; omega)

/-- What stood from j on is laid at i; what is behind it is cleared. -/
theorem cut_list {α : Type} (cur xs zs : List α) (n i j : Nat) (hc : n ≤ cur.length) (ht : cur.take n = xs) (hij : i ≤ j) (hj : j ≤ n) :
    (splice (splice cur i (xs.drop j)) (i + (n - j)) zs).take (n - (j - i)) = xs.take i ++ xs.drop j := by
  have hx : xs.length = n := by rw [← ht, List.length_take]; omega
  have e0 : cur.take i = xs.take i := by rw [← ht, List.take_take, Nat.min_eq_left (by omega)]
  have e1 : (splice cur i (xs.drop j)).take (i + (n - j)) = xs.take i ++ xs.drop j := by
    unfold splice
    rw [e0, ← List.append_assoc]
    exact List.take_left' (by simp [hx]; omega)
  conv => lhs; unfold splice
  unfold splice at e1
  rw [e1]
  rw [show n - (j - i) = (xs.take i ++ xs.drop j).length by simp [hx]; omega]
  exact List.take_left

end Go.Proofs.Ytfclclnlmhbgiaa.Vk
