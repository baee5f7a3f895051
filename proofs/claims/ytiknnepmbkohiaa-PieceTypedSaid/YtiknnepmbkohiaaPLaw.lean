/-
  Insert and Delete, in one law each; texts cut and joined.
-/
import Derived.Test.YtiknnepmbkohiaaWhole
set_option linter.unusedVariables false
namespace Go.Proofs.Ytiknnepmbkohiaa.Tb
open Go Go.RowKit Go.Proofs.Ytiknnepmbkohiaa.Vk Go.Shelf
open VecP (E TV)

/-- One, where there is anything. -/
def nz (n : Nat) : Nat := if n = 0 then 0 else 1

theorem size_zero_list {s : ByteArray} (h : s.size = 0) : s.data.toList = [] := List.eq_nil_of_length_eq_zero (by rw [size_str]; exact h)

section
variable {w : World} {base t : Nat} {F : Nat → Prop} {T : List UInt8} {most : Int} {edits np used : Nat}

theorem Changed.ofBelow {w' : World} (h : Tab w base t F T most edits np used) (hb : Below w.heap.size w w') {used' : Nat} (hu : used ≤ used') : Changed w base t F T most edits used' w' :=
  ⟨F, np, (h.below hb).more hu, Fr.ofBelow hb _, fun _ h => .inl h⟩

theorem insert_ok (h : Tab w base t F T most edits np used) (off : Nat) (s : ByteArray) (ho : off ≤ T.length) (hfit : (T.length : Int) + s.size ≤ most) (hT : T.length ≤ 100000) (hu : used + s.size ≤ 100000) :
    Calls Try.prog 11 #[.pointer (some ⟨t, 0, none⟩), .int .i64 off, .string s] w fun e w' => e = .returned (.int .i64 0) ∧
      Changed w base t F (T.take off ++ s.data.toList ++ T.drop off) most (edits + nz s.size) (used + s.size + 1) w' := by
  by_cases h0 : s.size = 0
  · refine (insert_empty h off s ho (by omega) h0).mono ?_
    rintro e w' ⟨rfl, hb⟩
    refine ⟨rfl, ?_⟩
    rw [size_zero_list h0, List.append_nil, List.take_append_drop, nz, if_pos h0]
    exact Changed.ofBelow h hb (by omega)
  · rw [nz, if_neg h0]
    exact insert_some h off s ho hfit hT hu (by omega)

theorem delete_ok (h : Tab w base t F T most edits np used) (off n : Nat) (ho : off + n ≤ T.length) (hT : T.length ≤ 100000) (hu : used ≤ 100000) :
    Calls Try.prog 12 #[.pointer (some ⟨t, 0, none⟩), .int .i64 off, .int .i64 n] w fun e w' => e = .returned (.int .i64 0) ∧
      Changed w base t F (T.take off ++ T.drop (off + n)) most (edits + nz n) (used + 1) w' := by
  by_cases h0 : n = 0
  · subst h0
    refine (delete_zero h off ⟨by omega, by omega, by omega, by omega⟩).mono ?_
    rintro e w' ⟨rfl, rfl⟩
    refine ⟨rfl, ?_⟩
    rw [Nat.add_zero, List.take_append_drop, nz, if_pos rfl]
    exact Changed.ofBelow h (Below.refl _ _) (by omega)
  · rw [nz, if_neg h0]
    exact delete_some h off n (by omega) ho hT hu

end

/-! Cuts of strings. -/
theorem ext_list (s : ByteArray) (a b : Nat) : (s.extract a b).data.toList = (s.data.toList.take b).drop a := by
  rw [ByteArray.data_extract, Array.toList_extract, List.extract_eq_take_drop, List.drop_take]


theorem ext_upto (s : ByteArray) (k : Nat) : (s.extract 0 k).data.toList = s.data.toList.take k := by rw [ext_list, List.drop_zero]
theorem ext_from (s : ByteArray) (k : Nat) : (s.extract k s.size).data.toList = s.data.toList.drop k := by
  rw [ext_list, ← size_str, List.take_length]

/-- s with m put in at k. -/
theorem put_list (s m : ByteArray) (k : Nat) : (s.extract 0 k ++ m ++ s.extract k s.size).data.toList = s.data.toList.take k ++ m.data.toList ++ s.data.toList.drop k := by
  rw [app_list, app_list, ext_upto, ext_from]
theorem put_size (s m : ByteArray) (k : Nat) (hk : k ≤ s.size) : (s.extract 0 k ++ m ++ s.extract k s.size).size = s.size + m.size := by
  rw [← size_str, put_list, List.length_append, List.length_append, List.length_take, List.length_drop, size_str, size_str]; omega
/-- s without the n bytes from a on. -/
theorem cut_list (s : ByteArray) (a n : Nat) : (s.extract 0 a ++ s.extract (a + n) s.size).data.toList = s.data.toList.take a ++ s.data.toList.drop (a + n) := by
  rw [app_list, ext_upto, ext_from]

/-- What stands in each round of a law: the table at t has the text T. -/
def TRel (w : World) (t : Nat) (T : List UInt8) (most : Int) (e u : Nat) (V : World) : Prop :=
  Below w.heap.size w V ∧ ∃ F np, Tab V w.heap.size t F T most e np u

theorem TRel.change {w V V' : World} {t e u e' u' np : Nat} {most : Int} {T T' : List UInt8} {F : Nat → Prop} (hb : Below w.heap.size w V) (ht : Tab V w.heap.size t F T most e np u) (hc : Changed V w.heap.size t F T' most e' u' V') : TRel w t T' most e' u' V' := by
  have hb' := hb.trans (hc.below ht hb.size)
  obtain ⟨F', np', ht', -, -⟩ := hc
  exact ⟨hb', F', np', ht'⟩
theorem TRel.more {w V : World} {t e u u' : Nat} {most : Int} {T : List UInt8} (h : TRel w t T most e u V) (hu : u ≤ u') : TRel w t T most e u' V := by
  obtain ⟨hb, F, np, ht⟩ := h
  exact ⟨hb, F, np, ht.more hu⟩

/-- An element of what a slice yields. -/
theorem _root_.Go.Proofs.Ytiknnepmbkohiaa.Vk.SrcV.at {w : World} {a : Option Addr} {n c j : Nat} {news : List Value} {u : Value} (h : SrcV w 1 (.slice a n c) n news) (hj : news[j]? = some u) : ∃ b o, a = some ⟨b, o, none⟩ ∧ w.cell? ⟨b, o + j, none⟩ = some u ∧ n ≤ c ∧ j < n := by
  have hlt := (List.getElem?_eq_some_iff.1 hj).1
  have hl := h.1
  rcases h.2.2.2 with ⟨ao, hv, h0⟩ | ⟨b, o, c', hv, hc1, hc2, hc⟩
  · omega
  · simp only [Value.slice.injEq, true_and] at hv
    obtain ⟨rfl, rfl⟩ := hv
    exact ⟨b, o, rfl, hc j u hj, hc1, by omega⟩

theorem empty_of_zero {x : ByteArray} (h : x.size = 0) : x.toList.isEmpty = true := by
  rw [ByteArray.toList_eq, size_zero_list h]; rfl
theorem empty_of_pos {x : ByteArray} (h : 0 < x.size) : x.toList.isEmpty = false := by
  rw [ByteArray.toList_eq]
  cases hl : x.data.toList with
  | nil => have := size_str x; rw [hl] at this; simp at this; omega
  | cons a l => rfl

end Go.Proofs.Ytiknnepmbkohiaa.Tb
