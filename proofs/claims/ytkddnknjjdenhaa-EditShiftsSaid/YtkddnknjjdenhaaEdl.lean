/-
  Lines joined, blanks at a line's beginning: as lists of bytes. No program in sight.
-/
import Derived.Test.YtkddnknjjdenhaaEdb
set_option linter.unusedVariables false
set_option linter.unusedSimpArgs false
set_option maxRecDepth 100000
namespace Go.Proofs.Ytkddnknjjdenhaa.Ed
open Go Go.RowKit Go.Proofs.Ytkddnknjjdenhaa.Vk Go.Proofs.Ytkddnknjjdenhaa.Str Go.Proofs.Ytkddnknjjdenhaa.Ln Go.Proofs.Ytkddnknjjdenhaa.Cl Go.Proofs.Ytkddnknjjdenhaa.Mv

/-- How many blanks a line begins with. -/
def bn (s : ByteArray) : Nat := (s.data.toList.takeWhile bl).length
theorem tw_prefix {α : Type} (p : α → Bool) (l : List α) : (l.takeWhile p).length ≤ l.length := (List.takeWhile_prefix p).length_le
theorem tw_lt {α : Type} (p : α → Bool) : ∀ (l : List α) (k : Nat) (h : k < (l.takeWhile p).length) (h2 : k < l.length), p l[k] = true
  | [], k, h, h2 => by simp at h2
  | x :: l, 0, h, h2 => by
    by_cases hp : p x = true
    · exact hp
    · rw [List.takeWhile_cons_of_neg hp] at h
      simp at h
  | x :: l, k + 1, h, h2 => by
    by_cases hp : p x = true
    · rw [List.takeWhile_cons_of_pos hp] at h
      exact tw_lt p l k (by simpa using h) (by simpa using h2)
    · rw [List.takeWhile_cons_of_neg hp] at h
      simp at h
theorem tw_at {α : Type} (p : α → Bool) : ∀ (l : List α) (h : (l.takeWhile p).length < l.length), p (l[(l.takeWhile p).length]) = false
  | [], h => by simp at h
  | x :: l, h => by
    by_cases hp : p x = true
    · have e : ((x :: l).takeWhile p) = x :: l.takeWhile p := List.takeWhile_cons_of_pos hp
      simp only [e, List.length_cons, List.getElem_cons_succ]
      simp only [e, List.length_cons, Nat.add_lt_add_iff_right] at h
      exact tw_at p l h
    · have e : ((x :: l).takeWhile p) = [] := List.takeWhile_cons_of_neg hp
      simp only [e, List.length_nil, List.getElem_cons_zero]
      simpa using hp
theorem bn_le (s : ByteArray) : bn s ≤ s.size := by
  have := tw_prefix bl s.data.toList
  rw [size_str] at this
  exact this
theorem bn_lt {s : ByteArray} {k : Nat} (h : k < bn s) (h2 : k < s.size) : bl s[k] = true := tw_lt bl s.data.toList k h (by rw [size_str]; exact h2)
theorem bn_at {s : ByteArray} {k : Nat} (e : k = bn s) (h : k < s.size) : bl s[k] = false := by
  subst e
  exact tw_at bl s.data.toList (by rw [size_str]; exact h)
/-- A line without the blanks at its beginning. -/
def strip (s : ByteArray) : ByteArray := s.extract (bn s) s.size
theorem strip_size (s : ByteArray) : (strip s).size = s.size - bn s := by unfold strip; rw [ByteArray.size_extract]; omega
/-- Does a space belong between them? -/
def apt (s r : ByteArray) : Bool := if h : 0 < s.size ∧ 0 < r.size then (!bl (s[s.size - 1]'(by omega)) && decide ((r[0]'(by omega)) ≠ 41)) else false
def jstep (s t : ByteArray) : ByteArray := if apt s (strip t) = true then (s ++ ⟨#[32]⟩) ++ strip t else s ++ strip t
/-- What has been joined after so many rounds. -/
def jJ (ls : List ByteArray) (i : Nat) : Nat → ByteArray
  | 0 => lineAt ls i
  | k + 1 => jstep (jJ ls i k) (lineAt ls (i + 1 + k))
theorem jstep_size (s t : ByteArray) : (jstep s t).size = s.size + (if apt s (strip t) = true then 1 else 0) + (strip t).size := by
  unfold jstep
  split
  · rw [ByteArray.size_append, ByteArray.size_append]
    rfl
  · rw [ByteArray.size_append]
    omega
theorem jJ_le (ls : List ByteArray) (i : Nat) : ∀ k, i + k < ls.length → (jJ ls i k).size + 1 ≤ tz ((ls.drop i).take (k + 1))
  | 0, h => by
    have h1 := tz_next (ls.drop i) 0 (by rw [List.length_drop]; omega)
    rw [List.getElem_drop] at h1
    simp only [Nat.add_zero] at h1
    unfold jJ
    rw [lineAt_get (by omega), h1]
    omega
  | k + 1, h => by
    have ih := jJ_le ls i k (by omega)
    have h1 := tz_next (ls.drop i) (k + 1) (by rw [List.length_drop]; omega)
    rw [List.getElem_drop] at h1
    show (jstep (jJ ls i k) (lineAt ls (i + 1 + k))).size + 1 ≤ _
    rw [jstep_size, strip_size, h1, lineAt_get (by omega)]
    have e : ls[i + 1 + k]'(by omega) = ls[i + (k + 1)]'(by omega) := by congr 1; omega
    rw [e]
    split <;> omega
theorem jJ_size {ls : List ByteArray} {i k : Nat} (h : i + k < ls.length) : (jJ ls i k).size ≤ tz ls := by
  have h1 := jJ_le ls i k h
  have h2 := tz_take (ls.drop i) (k + 1)
  have h3 : tz (ls.drop i) ≤ tz ls := by
    conv => rhs; rw [← List.take_append_drop i ls]
    rw [tz_append]
    omega
  omega
/-- Where the last line was put. -/
def jc (s t : ByteArray) : Nat := if (strip t).size = 0 then s.size - 1 else s.size
theorem apt_empty {s r : ByteArray} (h : r.size = 0) : apt s r = false := by
  unfold apt
  rw [dif_neg (by omega)]
theorem jc_min (s t : ByteArray) : min s.size ((jstep s t).size - 1) = jc s t := by
  rw [jstep_size]
  unfold jc
  by_cases h : (strip t).size = 0
  · rw [if_pos h, apt_empty h, if_neg (by decide)]
    omega
  · rw [if_neg h]
    split <;> omega
abbrev JA := Ch × Int × Bool
def jOk (ls : List ByteArray) (l n : Int) : Prop := 2 ≤ n ∧ 0 ≤ l ∧ n ≤ (ls.length : Int) - l
instance (ls : List ByteArray) (l n : Int) : Decidable (jOk ls l n) := by unfold jOk; infer_instance
def jan (ls : List ByteArray) (l n : Int) : JA :=
  if jOk ls l n then ((l, cutL ls l.toNat (l + n - 1).toNat, [jJ ls l.toNat (n - 1).toNat]), (jc (jJ ls l.toNat (n - 2).toNat) (lineAt ls (l + n - 1).toNat) : Int), true) else ((0, [], []), 0, false)
def JOut (w : World) (r : JA) (e : Ending) (w' : World) : Prop := ∃ x : Rw, e = .returned (.tuple #[cv x, .int .i64 r.2.1, .bool r.2.2]) ∧ CW w' x r.1 ∧ Below w.heap.size w w'
/-- A byte that a cut begins with. -/
theorem ext_first {s : ByteArray} {q : Nat} (h : q < s.size) (h2 : 0 < (s.extract q s.size).size) : (s.extract q s.size)[0] = s[q] := by
  rw [ByteArray.getElem_extract]
  simp
theorem ext_step (s : ByteArray) (q : Nat) (h : q < s.size) : (s.extract q s.size).extract 1 (s.extract q s.size).size = s.extract (q + 1) s.size := by
  refine So.str_ext ?_
  have hz : (s.extract q s.size).size = s.size - q := by rw [ByteArray.size_extract]; omega
  rw [hz]
  simp only [ByteArray.data_extract, Array.toList_extract, List.extract_eq_take_drop]
  have hl : s.data.toList.length = s.size := size_str s
  rw [List.drop_take, List.drop_drop, List.take_take]
  congr 1
  · omega
end Go.Proofs.Ytkddnknjjdenhaa.Ed
