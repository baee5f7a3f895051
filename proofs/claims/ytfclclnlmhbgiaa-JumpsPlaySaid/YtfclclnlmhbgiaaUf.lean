/-
  What becomes of a place: the two functions that package jumps hands to its own replace; and what replace makes of a list, as lists.
-/
import Derived.Test.YtfclclnlmhbgiaaMa
import Derived.Test.YtfclclnlmhbgiaaUp
set_option linter.unusedVariables false
set_option linter.unusedSimpArgs false
set_option maxRecDepth 100000
namespace Go.Proofs.Ytfclclnlmhbgiaa.Jp
open Go Go.RowKit Go.Proofs.Ytfclclnlmhbgiaa.Vk Go.Proofs.Ytfclclnlmhbgiaa.Str Go.Proofs.Ytfclclnlmhbgiaa.Ln Go.Proofs.Ytfclclnlmhbgiaa.Cl Go.Proofs.Ytfclclnlmhbgiaa.Ml Go.Proofs.Ytfclclnlmhbgiaa.Mk
attribute [local go_sem] Oper.semAt_some

/-- Push keeps the places of other lines; Adjust moves those that stay. -/
def fP (x : Int) (q : P2) : Option P2 := if q.1 = x then none else some q
def fA (a o n : Int) (q : P2) : Option P2 := (shf q.1 a o n).map fun l => (l, q.2)
/-- What stands when a function is asked and answers with f: the answer's place. -/
def gP (q : P2) : P2 := q
def gA (a o n : Int) (q : P2) : P2 := ((shf q.1 a o n).getD 0, q.2)
theorem fP_some {x : Int} {q v : P2} (h : fP x q = some v) : gP q = v := by
  unfold fP at h
  split at h
  · cases h
  · injection h
theorem fA_some {a o n : Int} {q v : P2} (h : fA a o n q = some v) : gA a o n q = v := by
  unfold fA at h
  unfold gA
  cases hs : shf q.1 a o n with
  | none => rw [hs] at h; cases h
  | some l => rw [hs] at h; injection h
theorem fP_is (x : Int) (q : P2) : (fP x q).isSome = decide (q.1 ≠ x) := by
  unfold fP
  by_cases h : q.1 = x <;> simp [h]
theorem fA_is (a o n : Int) (q : P2) : (fA a o n q).isSome = (shf q.1 a o n).isSome := by
  unfold fA
  cases shf q.1 a o n <;> rfl
/-- The index while a list is replaced: i of its places are behind. -/
def ix (f : P2 → Option P2) (ps : List P2) (at' i : Nat) : Nat := (at' - min i at') + ((ps.take (min i at')).filterMap f).length
theorem ix_zero (f : P2 → Option P2) (ps : List P2) (at' : Nat) : ix f ps at' 0 = at' := by simp [ix]
theorem ix_end (f : P2 → Option P2) (ps : List P2) (at' : Nat) (h : at' ≤ ps.length) : ix f ps at' ps.length = ((ps.take at').filterMap f).length := by
  unfold ix; rw [Nat.min_eq_right h]; simp
theorem take_one {ps : List P2} {i : Nat} (hi : i < ps.length) : ps.take (i + 1) = ps.take i ++ [ps[i]] := List.take_succ_eq_append_getElem hi
theorem rep_some {f : P2 → Option P2} {ps : List P2} {i : Nat} (hi : i < ps.length) {v : P2} (h : f ps[i] = some v) : (ps.take (i + 1)).filterMap f = (ps.take i).filterMap f ++ [v] := by
  rw [take_one hi, List.filterMap_append, List.filterMap_cons_some h]; rfl
theorem rep_none {f : P2 → Option P2} {ps : List P2} {i : Nat} (hi : i < ps.length) (h : f ps[i] = none) : (ps.take (i + 1)).filterMap f = (ps.take i).filterMap f := by
  rw [take_one hi, List.filterMap_append, List.filterMap_cons_none h]; simp
theorem ix_some {f : P2 → Option P2} {ps : List P2} {at' i : Nat} (hi : i < ps.length) {v : P2} (h : f ps[i] = some v) : ix f ps at' (i + 1) = ix f ps at' i := by
  unfold ix
  by_cases ha : i < at'
  · rw [Nat.min_eq_left (by omega : i + 1 ≤ at'), Nat.min_eq_left (by omega : i ≤ at'), rep_some hi h, List.length_append, List.length_singleton]; omega
  · rw [Nat.min_eq_right (by omega : at' ≤ i + 1), Nat.min_eq_right (by omega : at' ≤ i)]
theorem ix_none {f : P2 → Option P2} {ps : List P2} {at' i : Nat} (hi : i < ps.length) (h : f ps[i] = none) : ix f ps at' i = ix f ps at' (i + 1) + (if i < at' then 1 else 0) := by
  unfold ix
  by_cases ha : i < at'
  · rw [Nat.min_eq_left (by omega : i + 1 ≤ at'), Nat.min_eq_left (by omega : i ≤ at'), rep_none hi h, if_pos ha]; omega
  · rw [Nat.min_eq_right (by omega : at' ≤ i + 1), Nat.min_eq_right (by omega : at' ≤ i), if_neg ha]; omega
theorem ix_le (f : P2 → Option P2) (ps : List P2) (at' i : Nat) : ix f ps at' i ≤ at' := by
  unfold ix
  have h1 := List.length_filterMap_le f (ps.take (min i at'))
  have h2 : (ps.take (min i at')).length ≤ min i at' := by rw [List.length_take]; omega
  have h3 : min i at' ≤ at' := Nat.min_le_right _ _
  omega

theorem push1_any (x y : Int) (q : P2) (b : Nat) (w : World) (hb : PosAt w b x y) : Calls Try.prog 20 #[.agg #[.int .i64 q.1, .int .i64 q.2], .pointer (some ⟨b, 0, none⟩)] w fun e w' =>
    e = .returned (.tuple #[.agg #[.int .i64 (gP q).1, .int .i64 (gP q).2], .bool (fP x q).isSome]) ∧ Below w.heap.size w w' := by
  obtain ⟨l, c⟩ := q
  rw [fP_is]
  unfold gP
  have hlt := hb.lt
  have c0 := hb.c0
  clear hb
  have nb : b ≠ w.heap.size := by omega
  have nb1 : b ≠ w.heap.size + 1 := by omega
  go_enter Try.func20, Try.ntmps20
  go_wp2
  go_region
  all_goals go_wp2
  all_goals
    rw [show decide (l ≠ x) = (l != x) by by_cases h : l = x <;> simp [h]]
    refine ret_ps rfl rfl rfl rfl (g := w.heap.size + 1) (x := l) (y := c) ?_ ⟨rfl, (((Below.refl _ w).alloc (Nat.le_refl _) _).alloc (by simp) _).drew⟩
    have h := PosAt.new (w.alloc (.cells #[.int .i64 l, .int .i64 c] 31)) l c
    simp only [World.size_alloc] at h
    exact h

theorem adj1_any (a o n : Int) (q : P2) (b c d : Nat) (w : World) (hb : w.cell? ⟨b, 0, none⟩ = some (.int .i64 a)) (hc : w.cell? ⟨c, 0, none⟩ = some (.int .i64 o)) (hd : w.cell? ⟨d, 0, none⟩ = some (.int .i64 n)) (hq : -4611686018427387904 ≤ q.1 ∧ q.1 ≤ 4611686018427387904) :
    Calls Try.prog 25 #[.agg #[.int .i64 q.1, .int .i64 q.2], .pointer (some ⟨b, 0, none⟩), .pointer (some ⟨c, 0, none⟩), .pointer (some ⟨d, 0, none⟩)] w fun e w' =>
    e = .returned (.tuple #[.agg #[.int .i64 (gA a o n q).1, .int .i64 (gA a o n q).2], .bool (fA a o n q).isSome]) ∧ Below w.heap.size w w' := by
  obtain ⟨l, y⟩ := q
  rw [fA_is]
  unfold gA
  have hs := fun W => shift_any l a o n W hq
  unfold shV at hs
  have lb := World.block_lt_of_cell? w _ hb
  have lc := World.block_lt_of_cell? w _ hc
  have ld := World.block_lt_of_cell? w _ hd
  have nb : b ≠ w.heap.size := by intro h; subst h; exact absurd lb (by simp)
  go_enter Try.func25, Try.ntmps25
  go_wp2_with (go_at_call 26; refine (hs _).mono ?_; rintro e w' ⟨rfl, rfl⟩)
  all_goals
    refine ret_ps rfl rfl rfl rfl (g := w.heap.size + 1) (x := (shf l a o n).getD 0) (y := y) ?_ ⟨rfl, ((Below.refl _ w).alloc (Nat.le_refl _) _).alloc (by simp) _⟩
    have h := PosAt.new (w.alloc (.cells #[.int .i64 l, .int .i64 y] 31)) ((shf l a o n).getD 0) y
    simp only [World.size_alloc] at h
    exact h
end Go.Proofs.Ytfclclnlmhbgiaa.Jp
