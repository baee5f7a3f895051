/-
  Layer 17, told by lists: a range's lines with a line feed behind each; the text with both brackets is the one without them between its brackets.
-/
import Derived.Test.YtbimblfkkmpieaaNx
set_option linter.unusedVariables false
set_option linter.unusedSimpArgs false
set_option maxRecDepth 100000
namespace Go.Proofs.Ytbimblfkkmpieaa.Bo
open Go Go.RowKit Go.Proofs.Ytbimblfkkmpieaa.Vk Go.Proofs.Ytbimblfkkmpieaa.Str Go.Proofs.Ytbimblfkkmpieaa.Ln Go.Proofs.Ytbimblfkkmpieaa.Cl Go.Proofs.Ytbimblfkkmpieaa.Mv Go.Proofs.Ytbimblfkkmpieaa.Pr Go.Proofs.Ytbimblfkkmpieaa.Wd

def jb (l : List ByteArray) : List UInt8 := l.flatMap fun x => x.data.toList ++ [10]
theorem jb_append (l m : List ByteArray) : jb (l ++ m) = jb l ++ jb m := List.flatMap_append
theorem jb_one (x : ByteArray) : jb [x] = x.data.toList ++ [10] := by simp [jb]
theorem jb_nil : jb [] = [] := rfl
theorem jb_cons (x : ByteArray) (l : List ByteArray) : jb (x :: l) = x.data.toList ++ [10] ++ jb l := by simp [jb]
theorem ext_open {s : ByteArray} {k e : Nat} (hk : k < s.size) (he : k < e) : (s.extract k e).data.toList = s[k] :: (s.extract (k + 1) e).data.toList := by
  have hl := size_str s
  rw [ext_list, ext_list, List.drop_eq_getElem_cons (by rw [List.length_take]; omega), List.getElem_take]
  rfl
theorem ext_shut {s : ByteArray} {a m : Nat} (hm : m < s.size) (ha : a ≤ m) : (s.extract a (m + 1)).data.toList = (s.extract a m).data.toList ++ [s[m]] := by
  have hl := size_str s
  rw [ext_list, ext_list, List.take_succ_eq_append_getElem (by omega), List.drop_append_of_le_length (by rw [List.length_take]; omega)]
  rfl
theorem cons2 {α : Type} {x y : α} {l m : List α} (h : x = y) (k : l = m) : x :: l = y :: m := by rw [h, k]
theorem app2 {α : Type} {x y l m : List α} (h : x = y) (k : l = m) : x ++ l = y ++ m := by rw [h, k]
section
variable {ls : List ByteArray} {i k j m : Nat}
theorem At.ij {b : Nat} (h : At ls b ((i, k), j, m)) : i < j ∨ i = j ∧ k < m := by
  have hl := h.lt
  unfold lp So.lt at hl
  simp only [decide_eq_true_eq] at hl
  omega
theorem around_one (hk : k < (lineAt ls i).size) (hm : m < (lineAt ls i).size) (h : k < m) : ∃ Z, jb (tx ls i (k + 1) i m) = Z ++ [10] ∧ jb (tx ls i k i (m + 1)) = [(lineAt ls i)[k]] ++ Z ++ [(lineAt ls i)[m]] ++ [10] := by
  have h1 : ∀ a b, tx ls i a i b = [(lineAt ls i).extract a b] := fun a b => by
    unfold tx
    rw [show i + 1 - i = 1 by omega]
    simp [So.enr, prt, cF, cT]
  rw [h1, h1, jb_one, jb_one]
  refine ⟨_, rfl, ?_⟩
  rw [ext_open hk (by omega), ext_shut hm (by omega)]
  simp
theorem around_more (hk : k < (lineAt ls i).size) (hm : m < (lineAt ls j).size) (h : i < j) : ∃ Z, jb (tx ls i (k + 1) j m) = Z ++ [10] ∧ jb (tx ls i k j (m + 1)) = [(lineAt ls i)[k]] ++ Z ++ [(lineAt ls j)[m]] ++ [10] := by
  obtain ⟨d, hd⟩ : ∃ d, j = i + 1 + d := ⟨j - (i + 1), by omega⟩
  have h1 : ∀ a b, tx ls i a j b = (lineAt ls i).extract a (lineAt ls i).size :: ((So.enr ls (i + 1) d).map (·.2) ++ [(lineAt ls j).extract 0 b]) := fun a b => by
    unfold tx
    have e1 := (So.enr_cut ls i (d + 2) (d + 1) (by omega)).2
    have e2 : So.enr ls i (d + 1) = (i, lineAt ls i) :: So.enr ls (i + 1) d := by
      unfold So.enr
      rw [List.range_succ_eq_map, List.map_cons, List.map_map]
      refine cons2 (by simp) (List.map_congr_left fun q _ => ?_)
      simp only [Function.comp]
      rw [show i + q.succ = i + 1 + q by omega]
    rw [show j + 1 - i = d + 1 + 1 by omega, e1, e2, List.map_append, List.map_cons, List.map_cons, List.map_nil, List.cons_append]
    refine cons2 ?_ (app2 (List.map_congr_left fun x hx => ?_) (cons2 ?_ rfl))
    · unfold prt cF cT
      dsimp only
      rw [if_pos rfl, if_neg (by omega)]
    · unfold So.enr at hx
      obtain ⟨q, hq, rfl⟩ := List.mem_map.1 hx
      have hq := List.mem_range.1 hq
      unfold prt cF cT
      dsimp only
      rw [if_neg (by omega), if_neg (by omega)]
      exact ext_whole _
    · rw [show i + (d + 1) = j by omega]
      unfold prt cF cT
      dsimp only
      rw [if_neg (by omega), if_pos rfl]
  rw [h1, h1, jb_cons, jb_append, jb_one, jb_cons, jb_append, jb_one]
  refine ⟨((lineAt ls i).extract (k + 1) (lineAt ls i).size).data.toList ++ [10] ++ jb ((So.enr ls (i + 1) d).map (·.2)) ++ ((lineAt ls j).extract 0 m).data.toList, by simp, ?_⟩
  rw [ext_open hk hk, ext_shut hm (Nat.zero_le _)]
  simp
theorem around_bytes {b : Nat} (h : At ls b ((i, k), j, m)) : ∃ Z, jb (tx ls i (k + 1) j m) = Z ++ [10] ∧ jb (tx ls i k j (m + 1)) = [(lineAt ls i)[k]'h.k1] ++ Z ++ [(lineAt ls j)[m]'h.k2] ++ [10] := by
  have hl := h.ij
  by_cases e : i = j
  · subst e
    exact around_one (k := k) (m := m) h.k1 h.k2 (by omega)
  · exact around_more (i := i) (j := j) (k := k) (m := m) h.k1 h.k2 (by omega)
theorem At.inner {b : Nat} (h : At ls b ((i, k), j, m)) : Rv ls i (k + 1) j m := by
  have hl := h.ij
  have h1 := h.k1
  have h2 := h.k2
  have h3 := h.l2
  simp only at h1 h2 h3
  exact ⟨by omega, h3, by omega, by omega, by omega⟩
theorem At.outer {b : Nat} (h : At ls b ((i, k), j, m)) : Rv ls i k j (m + 1) := by
  have hl := h.ij
  have h1 := h.k1
  have h2 := h.k2
  have h3 := h.l2
  simp only at h1 h2 h3
  exact ⟨by omega, h3, by omega, by omega, by omega⟩
end
end Go.Proofs.Ytbimblfkkmpieaa.Bo
