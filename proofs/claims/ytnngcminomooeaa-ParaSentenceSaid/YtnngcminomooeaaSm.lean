/-
  Going through the bytes of a text: where one is behind so many of them.
-/
import Derived.Test.YtnngcminomooeaaSc
set_option linter.unusedVariables false
set_option linter.unusedSimpArgs false
set_option maxRecDepth 100000
namespace Go.Proofs.Ytnngcminomooeaa.So
open Go Go.RowKit Go.Proofs.Ytnngcminomooeaa.Vk Go.Proofs.Ytnngcminomooeaa.Str Go.Proofs.Ytnngcminomooeaa.Ln Go.Proofs.Ytnngcminomooeaa.Cl
attribute [local go_sem] Oper.semAt_some

theorem enr_head (ls : List ByteArray) (n L : Nat) (h : L < n) : enr ls L (n - L) = (L, lineAt ls L) :: enr ls (L + 1) (n - (L + 1)) := by
  unfold enr
  rw [show n - L = (n - (L + 1)) + 1 by omega, List.range_succ_eq_map, List.map_cons, List.map_map, Nat.add_zero]
  congr 1
  apply List.map_congr_left
  intro k _
  simp only [Function.comp]
  rw [show L + k.succ = L + 1 + k by omega]
/-- What is still to come, from byte I of line L on. -/
def rst (ls : List ByteArray) (n L I : Nat) : List Cell := (cells (enr ls L (n - L))).drop I
theorem rst_head (ls : List ByteArray) (n L I : Nat) (h : L < n) (hI : I ≤ (lineAt ls L).size) : rst ls n L I = (lcell (L, lineAt ls L)).drop I ++ rst ls n (L + 1) 0 := by
  unfold rst
  rw [enr_head ls n L h]
  unfold cells
  rw [List.flatMap_cons, List.drop_append_of_le_length (by rw [lcell_length]; exact hI), List.drop_zero]
theorem rst_line (ls : List ByteArray) (n L I : Nat) (h : L < n) (hI : I = (lineAt ls L).size) : rst ls n L I = rst ls n (L + 1) 0 := by
  rw [rst_head ls n L I h (by omega), List.drop_eq_nil_of_le (by rw [lcell_length]; show (lineAt ls L).size ≤ I; omega), List.nil_append]
theorem rst_at (ls : List ByteArray) (n L I : Nat) (h : L < n) (hI : I < (lineAt ls L).size) : rst ls n L I = ((L, I), (lineAt ls L)[I]) :: rst ls n L (I + 1) := by
  rw [rst_head ls n L I h (by omega), rst_head ls n L (I + 1) h (by omega)]
  have hl : I < (lcell (L, lineAt ls L)).length := by rw [lcell_length]; exact hI
  rw [List.drop_eq_getElem_cons hl]
  have hx : (lcell (L, lineAt ls L))[I] = ((L, I), (lineAt ls L)[I]) := by
    have := lcell_get L (lineAt ls L) I hI
    rw [List.getElem?_eq_getElem hl] at this
    simpa using this
  rw [hx]; rfl
theorem rst_end (ls : List ByteArray) (n I : Nat) : rst ls n n I = [] := by
  unfold rst
  rw [Nat.sub_self]
  simp [enr, cells]
theorem rst_all (ls : List ByteArray) (n : Nat) : rst ls n 0 0 = cells (enr ls 0 n) := by unfold rst; rw [List.drop_zero, Nat.sub_zero]

theorem enr_snd (ls : List ByteArray) : (enr ls 0 ls.length).map (·.2) = ls := by
  apply List.ext_getElem?
  intro i
  rw [List.getElem?_map]
  by_cases hi : i < ls.length
  · rw [enr_get _ _ _ _ hi, List.getElem?_eq_getElem hi, Nat.zero_add, Option.map_some, lineAt_get hi]
  · rw [List.getElem?_eq_none (by rw [enr_length]; omega), List.getElem?_eq_none (by omega)]; rfl
theorem cells_length (xs : List (Nat × ByteArray)) : (cells xs).length + xs.length = tz (xs.map (·.2)) := by
  induction xs with
  | nil => rfl
  | cons x r ih =>
    unfold cells at ih ⊢
    rw [List.flatMap_cons, List.length_append, lcell_length, List.map_cons, tz_cons, List.length_cons]
    omega
theorem all_length (ls : List ByteArray) : (cells (enr ls 0 ls.length)).length + ls.length = tz ls := by
  have := cells_length (enr ls 0 ls.length)
  rwa [enr_snd, enr_length] at this

/-- The three blocks of the counters. -/
theorem three_rows (w : World) (A B C : Obj) : let W := ((w.alloc A).alloc B).alloc C
    W.heap.size = w.heap.size + 3 ∧ W.heap[w.heap.size]? = some A ∧ W.heap[w.heap.size + 1]? = some B ∧ W.heap[w.heap.size + 2]? = some C ∧ Below w.heap.size w W := by
  intro W
  have h0 : ∀ (x : World) (o : Obj), (x.alloc o).heap = x.heap.push o := fun _ _ => rfl
  refine ⟨by simp [W], ?_, ?_, ?_, ?_⟩
  all_goals try simp only [W, h0, Array.getElem?_push, Array.size_push]
  · rw [if_neg (by omega), if_neg (by omega), if_pos trivial]
  · rw [if_neg (by omega), if_pos trivial]
  · rw [if_pos trivial]
  · exact (((Below.refl _ w).alloc (Nat.le_refl _) A).alloc (by simp) B).alloc (by simp; omega) C
theorem lineAt_end {ls : List ByteArray} {k : Nat} (h : ls.length ≤ k) : (lineAt ls k).size = 0 := by unfold lineAt; rw [List.getElem?_eq_none h]; rfl
/-- What stands in a counter. -/
def cnt (M : Nat) (w : World) : Nat := (RowKit.intOf ((w.cell? ⟨M, 0, none⟩).getD undef)).toNat
theorem cnt_of {M : Nat} {w : World} {k : Nat} (h : w.heap[M]? = some (.cells #[.int .i64 k] 3 (0, 0))) : cnt M w = k := by
  have : w.cell? ⟨M, 0, none⟩ = some (.int .i64 k) := (cell_of_row w _ 0 _ _ _ h).trans (by simp)
  unfold cnt
  rw [this]
  simp [RowKit.intOf]

theorem rst_next {ls : List ByteArray} {n L I : Nat} {pre rest : List Cell} {x : Cell} (h : cells (enr ls 0 n) = pre ++ rst ls n L I) (hx : cells (enr ls 0 n) = pre ++ x :: rest) (hL : L < n) (hI : I < (lineAt ls L).size) :
    x = ((L, I), (lineAt ls L)[I]) ∧ cells (enr ls 0 n) = (pre ++ [x]) ++ rst ls n L (I + 1) := by
  rw [rst_at ls n L I hL hI] at h
  have h2 := h.symm.trans hx
  have h3 := List.append_cancel_left h2
  injection h3 with h3 h4
  refine ⟨h3.symm, ?_⟩
  rw [h, h3]
  simp
theorem ne_pos (a b : Int) (W : World) : (binOp .neq 36 (.agg #[.int .i64 a, .int .i64 b]) (.agg #[.int .i64 a, .int .i64 b])).run Try.prog W = .ok (.bool false) W := by
  have hS : Try.prog.underlying 36 = some (.struct (Try.prog.fieldsOf 36)) := by kernel_rfl
  have hp : Try.prog.stoodInHeld 36 = false := by kernel_rfl
  rw [run_neq_struct, show (10000 : Nat) = 9999 + 1 from rfl, run_equalIn_agg W 9999 36 _ _ hS hp]
  simp only [Program.fieldsOf, Try.underlying36]
  go_simp

theorem eqfc (x : Value) (W : World) : Sem.run Try.prog (Go.binOp .eql 75 (.func (.func 46) #[] #[x]) .nilFunc) W = .ok (.bool false) W := by kernel_rfl
end Go.Proofs.Ytnngcminomooeaa.So
