/-
  Strings cut and joined, as lists; an element of what a slice yields.
-/
import Derived.Test.YtkddnknjjdenhaaKit
set_option linter.unusedVariables false
set_option linter.unusedSimpArgs false
set_option maxRecDepth 100000
namespace Go.Proofs.Ytkddnknjjdenhaa.Str
open Go Go.RowKit Go.Proofs.Ytkddnknjjdenhaa.Vk

theorem size_str (s : ByteArray) : s.data.toList.length = s.size := by rw [Array.length_toList]; rfl
theorem app_list (a b : ByteArray) : (a ++ b).data.toList = a.data.toList ++ b.data.toList := by
  rw [ByteArray.data_append, Array.toList_append]
theorem size_zero_list {s : ByteArray} (h : s.size = 0) : s.data.toList = [] := List.eq_nil_of_length_eq_zero (by rw [size_str]; exact h)
theorem ext_list (s : ByteArray) (a b : Nat) : (s.extract a b).data.toList = (s.data.toList.take b).drop a := by
  rw [ByteArray.data_extract, Array.toList_extract, List.extract_eq_take_drop, List.drop_take]
theorem ext_upto (s : ByteArray) (k : Nat) : (s.extract 0 k).data.toList = s.data.toList.take k := by rw [ext_list, List.drop_zero]
theorem ext_from (s : ByteArray) (k : Nat) : (s.extract k s.size).data.toList = s.data.toList.drop k := by
  rw [ext_list, ← size_str, List.take_length]

/-- s with m put in at k. -/
theorem put_list (s m : ByteArray) (k : Nat) : (s.extract 0 k ++ m ++ s.extract k s.size).data.toList = s.data.toList.take k ++ m.data.toList ++ s.data.toList.drop k := by
  rw [app_list, app_list, ext_upto, ext_from]
theorem put_size (s m : ByteArray) (k : Nat) (hk : k ≤ s.size) : (s.extract 0 k ++ m ++ s.extract k s.size).size = s.size + m.size := by
  rw [← size_str, put_list, List.length_append, List.length_append, List.length_take, List.length_drop, size_str, size_str]; omega
/-- s without the n bytes from a on. -/
theorem cut_list (s : ByteArray) (a n : Nat) : (s.extract 0 a ++ s.extract (a + n) s.size).data.toList = s.data.toList.take a ++ s.data.toList.drop (a + n) := by
  rw [app_list, ext_upto, ext_from]
theorem cut_size (s : ByteArray) (a n : Nat) (h : a + n ≤ s.size) : (s.extract 0 a ++ s.extract (a + n) s.size).size = s.size - n := by
  rw [← size_str, cut_list, List.length_append, List.length_take, List.length_drop, size_str]; omega

/-- An element of what a slice yields. -/
theorem _root_.Go.Proofs.Ytkddnknjjdenhaa.Vk.SrcV.at {w : World} {a : Option Addr} {n c j : Nat} {news : List Value} {u : Value} (h : SrcV w 1 (.slice a n c) n news) (hj : news[j]? = some u) : ∃ b o, a = some ⟨b, o, none⟩ ∧ w.cell? ⟨b, o + j, none⟩ = some u ∧ n ≤ c ∧ j < n := by
  have hlt := (List.getElem?_eq_some_iff.1 hj).1
  have hl := h.1
  rcases h.2.2.2 with ⟨ao, hv, h0⟩ | ⟨b, o, c', hv, hc1, hc2, hc⟩
  · omega
  · simp only [Value.slice.injEq, true_and] at hv
    obtain ⟨rfl, rfl⟩ := hv
    exact ⟨b, o, rfl, hc j u hj, hc1, by omega⟩

theorem empty_of_zero {x : ByteArray} (h : x.size = 0) : x.toList.isEmpty = true := by
  rw [ByteArray.toList_eq, size_zero_list h]; rfl
theorem empty_of_pos {x : ByteArray} (h : 0 < x.size) : x.toList.isEmpty = false := by
  rw [ByteArray.toList_eq]
  cases hl : x.data.toList with
  | nil => have := size_str x; rw [hl] at this; simp at this; omega
  | cons a l => rfl

end Go.Proofs.Ytkddnknjjdenhaa.Str
