/-
  Package class, and the document's answers to it: classes of bytes, a line's first byte that is no blank, places in a text.
-/
import Derived.Test.YtfclclnlmhbgiaaLn
set_option linter.unusedVariables false
set_option linter.unusedSimpArgs false
set_option maxRecDepth 100000
namespace Go.Proofs.Ytfclclnlmhbgiaa.Cl
open Go Go.RowKit Go.Proofs.Ytfclclnlmhbgiaa.Vk Go.Proofs.Ytfclclnlmhbgiaa.Str Go.Proofs.Ytfclclnlmhbgiaa.Ln
attribute [local go_sem] Oper.semAt_some

/-- The class of a byte. -/
def cls (c : Int) (big : Bool) : Int :=
  if c = 32 ∨ c = 9 then 0 else if big = true then 1 else if 97 ≤ c ∧ c ≤ 122 ∨ 65 ≤ c ∧ c ≤ 90 ∨ 48 ≤ c ∧ c ≤ 57 ∨ c = 95 ∨ 128 ≤ c then 1 else 2
theorem cls_blank {c : Int} (b : Bool) (h : c = 32 ∨ c = 9) : cls c b = 0 := if_pos h
theorem cls_big {c : Int} (h1 : c ≠ 32) (h2 : c ≠ 9) : cls c true = 1 := by unfold cls; rw [if_neg (by omega), if_pos rfl]
theorem cls_word {c : Int} (h1 : c ≠ 32) (h2 : c ≠ 9) (h : 97 ≤ c ∧ c ≤ 122 ∨ 65 ≤ c ∧ c ≤ 90 ∨ 48 ≤ c ∧ c ≤ 57 ∨ c = 95 ∨ 128 ≤ c) : cls c false = 1 := by
  unfold cls; rw [if_neg (by omega), if_neg (by decide), if_pos h]
theorem cls_other {c : Int} (h1 : c ≠ 32) (h2 : c ≠ 9) (h : ¬ (97 ≤ c ∧ c ≤ 122 ∨ 65 ≤ c ∧ c ≤ 90 ∨ 48 ≤ c ∧ c ≤ 57 ∨ c = 95 ∨ 128 ≤ c)) : cls c false = 2 := by
  unfold cls; rw [if_neg (by omega), if_neg (by decide), if_neg h]
theorem cls_zero (c : Int) : cls c true = 0 ↔ c = 32 ∨ c = 9 := by
  unfold cls; split <;> simp_all
theorem cls_one (c : Int) (h : cls c true ≠ 0) : cls c true = 1 := by
  unfold cls at *; split at h <;> simp_all

theorem ret_int {a b : Int} (h : a = b) : Ending.returned (.int .i64 a) = Ending.returned (.int .i64 b) := by rw [h]

/-- A blank. -/
def bl (b : UInt8) : Bool := b == 32 || b == 9
theorem bl_cls {b : UInt8} (h : bl b = true) : cls b.toNat true = 0 := by
  refine cls_blank _ ?_
  simp only [bl, Bool.or_eq_true, beq_iff_eq] at h
  rcases h with rfl | rfl
  · exact .inl rfl
  · exact .inr rfl
theorem nb_cls {b : UInt8} (h : bl b = false) : cls b.toNat true = 1 := by
  simp only [bl, Bool.or_eq_false_iff, beq_eq_false_iff_ne] at h
  refine cls_big (fun e => h.1 ?_) (fun e => h.2 ?_)
  · apply UInt8.toNat_inj.1; have : (32 : UInt8).toNat = 32 := rfl; omega
  · apply UInt8.toNat_inj.1; have : (9 : UInt8).toNat = 9 := rfl; omega

/-- A line's first byte that is no blank, or its last one. -/
def fst (s : ByteArray) : Nat := min (s.data.toList.findIdx fun b => !bl b) (s.size - 1)
theorem list_at (s : ByteArray) (j : Nat) (h : j < s.data.toList.length) : s.data.toList[j] = s[j]'(by rw [size_str] at h; exact h) := rfl
theorem fst_at {s : ByteArray} {k : Nat} (hk : k < s.size) (hb : ∀ q, ∀ hq : q < s.size, q < k → bl s[q] = true) (h : bl s[k] = false) : fst s = k := by
  have hl : k < s.data.toList.length := by rw [size_str]; exact hk
  have : s.data.toList.findIdx (fun b => !bl b) = k := by
    rw [List.findIdx_eq hl]
    refine ⟨by rw [list_at, h]; rfl, fun j hj => ?_⟩
    rw [list_at, hb j (by omega) hj]; rfl
  rw [fst, this]; omega
theorem fst_none {s : ByteArray} (hb : ∀ q, ∀ hq : q < s.size, bl s[q] = true) : fst s = s.size - 1 := by
  have : s.data.toList.findIdx (fun b => !bl b) = s.data.toList.length := by
    rw [List.findIdx_eq_length]
    intro x hx
    obtain ⟨j, hj, rfl⟩ := List.getElem_of_mem hx
    rw [list_at, hb j (by rw [size_str] at hj; exact hj)]; rfl
  rw [fst, this, size_str]; omega

/-- The nearest number from 0 to n - 1 (0 if there is none). -/
def cl (n : Nat) (l : Int) : Nat := (min (max l 0) ((n : Int) - 1)).toNat
theorem cl_lt {n : Nat} (l : Int) (h : 0 < n) : cl n l < n := by unfold cl; omega
theorem cl_cast {n : Nat} (l : Int) (h : 0 < n) : min (max l 0) ((n : Int) - 1) = (cl n l : Int) := by unfold cl; omega
theorem cl_in {n : Nat} {k : Nat} (h : k < n) : cl n k = k := by unfold cl; omega
def lineAt (ls : List ByteArray) (k : Nat) : ByteArray := ls[k]?.getD ⟨#[]⟩
theorem lineAt_get {ls : List ByteArray} {k : Nat} (h : k < ls.length) : lineAt ls k = ls[k] := by simp [lineAt, h]
/-- How far a column may go. -/
def top (s : ByteArray) (past : Bool) : Nat := if past = true then s.size else s.size - 1
/-- The place that is nearest: its line, its column. -/
def clL (ls : List ByteArray) (l : Int) : Nat := cl ls.length l
def clC (ls : List ByteArray) (l c : Int) (past : Bool) : Nat := cl (top (lineAt ls (clL ls l)) past + 1) c
def pos (l c : Int) : Value := .agg #[.int .i64 l, .int .i64 c]

theorem two_new (w : World) (A B : Obj) : ((w.alloc A).alloc B).heap[w.heap.size + 1]? = some B := by
  have h : ((w.alloc A).alloc B).heap[(w.alloc A).heap.size]? = some B := Array.getElem?_push_size
  have e : (w.alloc A).heap.size = w.heap.size + 1 := by simp
  rwa [e] at h
theorem two_below (w : World) (A B : Obj) : Below w.heap.size w ((w.alloc A).alloc B) := ((Below.refl _ w).alloc (Nat.le_refl _) A).alloc (by simp) B
/-- A place is handed back out of its variable. -/
theorem ret_pos {fn : Func} {p : Tmp} {a : Act} {w : World} {A : Obj} {fr : Nat × Nat} {l c : Int} {Q : Ending → World → Prop} (hr : fn.results = #[.cell p 31]) (hp : a.tmps.getD p undef = .pointer (some ⟨w.heap.size + 1, 0, none⟩)) (hd : a.defers = [])
    (h : Q (.returned (.agg #[.int .i64 l, .int .i64 c])) ((w.alloc A).alloc (.cells #[.int .i64 l, .int .i64 c] 31 fr))) :
    bodyPost Try.prog fn Q Exit.ret a ((w.alloc A).alloc (.cells #[.int .i64 l, .int .i64 c] 31 fr)) :=
  bodyPost_ret (results_cell_row hr _ _ (w.heap.size + 1) _ #[.int .i64 l, .int .i64 c] _ _ hp (two_new w _ _) Try.underlying31 rfl (by kernel_rfl)) hd h

theorem pos_eq {a b c d : Int} (h : a = b) (k : c = d) : Ending.returned (.agg #[.int .i64 a, .int .i64 c]) = Ending.returned (.agg #[.int .i64 b, .int .i64 d]) := by rw [h, k]

theorem clL_nil (l : Int) : clL [] l = 0 := by unfold clL cl; simp; omega
theorem clC_nil (l c : Int) (past : Bool) : clC [] l c past = 0 := by
  unfold clC
  have : top (lineAt [] (clL [] l)) past = 0 := by
    have e : lineAt [] (clL [] l) = ⟨#[]⟩ := by simp [lineAt]
    rw [e]; cases past <;> rfl
  rw [this]; unfold cl; omega

end Go.Proofs.Ytfclclnlmhbgiaa.Cl
