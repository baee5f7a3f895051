/-
  Layer 17, told without a program: the pair round a byte's place; how the pairs lie in one another.
-/
import Derived.Test.YtbimblfkkmpieaaJf
import Derived.Test.YtbimblfkkmpieaaOi
import Derived.Test.YtbimblfkkmpieaaOd
set_option linter.unusedVariables false
set_option linter.unusedSimpArgs false
set_option maxRecDepth 100000
namespace Go.Proofs.Ytbimblfkkmpieaa.Bo
open Go Go.RowKit Go.Proofs.Ytbimblfkkmpieaa.Vk Go.Proofs.Ytbimblfkkmpieaa.Str Go.Proofs.Ytbimblfkkmpieaa.Ln Go.Proofs.Ytbimblfkkmpieaa.Cl Go.Proofs.Ytbimblfkkmpieaa.Mv Go.Proofs.Ytbimblfkkmpieaa.Pr Go.Proofs.Ytbimblfkkmpieaa.Wd

/-- The pair that an answer speaks of. -/
def brk (ls : List ByteArray) (l c : Int) (b : Nat) (nn : Int) : Option PP := if Wo.On ls l c then enV ls l c b nn else none
/-- Its range, without both brackets or with them. -/
def brT (ar : Bool) (x : PP) : Value := .agg #[.int .i64 0, .int .i64 x.1.1, .int .i64 ((if ar = true then x.1.2 else x.1.2 + 1 : Nat) : Int), .int .i64 x.2.1, .int .i64 ((if ar = true then x.2.2 + 1 else x.2.2 : Nat) : Int)]
def brV (ar : Bool) : Option PP → Value
  | some x => .tuple #[brT ar x, .bool true]
  | none => .tuple #[Wo.rgv 0 0 0 0 0, .bool false]
theorem brV_parts (ar : Bool) (o : Option PP) : ∃ l c m d ok, brV ar o = .tuple #[Wo.rgv 0 l c m d, .bool ok] := by
  cases o with
  | none => exact ⟨0, 0, 0, 0, false, rfl⟩
  | some x => exact ⟨_, _, _, _, true, rfl⟩
section
variable {ls : List ByteArray} {l c nn : Int} {b : Nat} {x y : PP} {m : Nat}
theorem brk_off (h : ¬ Wo.On ls l c) : brk ls l c b nn = none := if_neg h
theorem brk_on (h : Wo.On ls l c) : brk ls l c b nn = enV ls l c b nn := if_pos h
theorem brk_kind (h : kB b = false) : brk ls l c b nn = none := by
  unfold brk enV
  split
  · exact if_neg (fun hh => by rw [h] at hh; cases hh.2)
  · rfl
theorem brk_cnt (h : ¬ 1 ≤ nn) : brk ls l c b nn = none := by
  unfold brk enV
  split
  · exact if_neg (fun hh => h hh.1.2)
  · rfl
/-- Where both brackets of a pair are. -/
structure At (ls : List ByteArray) (b : Nat) (x : PP) : Prop where
  l1 : x.1.1 < ls.length
  k1 : x.1.2 < (lineAt ls x.1.1).size
  b1 : bt (lineAt ls x.1.1) x.1.2 = kO b
  l2 : x.2.1 < ls.length
  k2 : x.2.2 < (lineAt ls x.2.1).size
  b2 : bt (lineAt ls x.2.1) x.2.2 = kS b
  lt : lp x.1 x.2 = true
theorem P_at (h : x ∈ P ls b) : At ls b x := by
  obtain ⟨h1, h2, h3⟩ := prs_mem (Cs ls) [] (Cs_sorted ls) (by simp) x h
  rcases h2 with h2 | ⟨b2, e2, h2⟩
  · cases h2
  obtain ⟨b3, e3, h3⟩ := h3
  obtain ⟨m1, m2, m3⟩ := Cs_mem h2
  obtain ⟨n1, n2, n3⟩ := Cs_mem h3
  exact ⟨m1, m2, m3.symm.trans e2, n1, n2, n3.symm.trans e3, h1⟩
theorem brk_some (h : brk ls l c b nn = some x) : Wo.On ls l c ∧ 1 ≤ nn ∧ kB b = true ∧ (enL ls l c b)[nn.toNat - 1]? = some x := by
  unfold brk at h
  split at h
  · rename_i ho
    unfold enV at h
    split at h
    · rename_i hh
      exact ⟨ho, hh.1.2, hh.2, h⟩
    · cases h
  · cases h
theorem enL_at (h : x ∈ enL ls l c b) : At ls b x := P_at (List.mem_filter.1 h).1
theorem brk_at (h : brk ls l c b nn = some x) : At ls b x := enL_at (List.mem_of_getElem? (brk_some h).2.2.2)
theorem enL_eb (h : x ∈ enL ls l c b) : eb (l.toNat, c.toNat) x = true := (List.mem_filter.1 h).2
/-- The pair ahead is within the one behind it. -/
theorem rel_in {p : P2} (hr : Rel x y) (h1 : eb p x = true) (h2 : eb p y = true) : lp y.1 x.1 = true ∧ lp x.2 y.2 = true := by
  obtain ⟨r1, r2⟩ := hr
  refine ⟨r2.resolve_right fun hk => ?_, r1⟩
  unfold eb lp So.lt at h1 h2
  unfold lp So.lt at hk
  simp only [Bool.and_eq_true, Bool.not_eq_true', decide_eq_true_eq, decide_eq_false_iff_not] at h1 h2 hk
  omega
theorem enL_in (h : (enL ls l c b)[m]? = some x) (h2 : (enL ls l c b)[m + 1]? = some y) : lp y.1 x.1 = true ∧ lp x.2 y.2 = true := by
  have hp : (enL ls l c b).Pairwise Rel := (prs_rel (o := kO b) (s := kS b) (Cs ls) [] (Cs_sorted ls) List.Pairwise.nil (by simp)).filter _
  obtain ⟨k1, e1⟩ := List.getElem?_eq_some_iff.1 h
  obtain ⟨k2, e2⟩ := List.getElem?_eq_some_iff.1 h2
  have hR := List.pairwise_iff_getElem.1 hp m (m + 1) k1 k2 (by omega)
  rw [e1, e2] at hR
  exact rel_in hR (enL_eb (List.mem_of_getElem? h)) (enL_eb (List.mem_of_getElem? h2))
/-- The next pair. -/
theorem brk_in {n : Nat} (h : brk ls l c b (n : Int) = some x) (h2 : brk ls l c b ((n : Int) + 1) = some y) : lp y.1 x.1 = true ∧ lp x.2 y.2 = true := by
  obtain ⟨_, hn, _, e1⟩ := brk_some h
  obtain ⟨_, _, _, e2⟩ := brk_some h2
  rw [show ((n : Int)).toNat - 1 = n - 1 by omega] at e1
  rw [show ((n : Int) + 1).toNat - 1 = n - 1 + 1 by omega] at e2
  exact enL_in e1 e2
theorem brk_end {n : Nat} (hn : 1 ≤ n) (h : brk ls l c b (n : Int) = none) : brk ls l c b ((n : Int) + 1) = none := by
  by_cases ho : Wo.On ls l c
  rotate_left
  · exact brk_off ho
  rw [brk_on ho] at h ⊢
  unfold enV at h ⊢
  by_cases hk : kB b = true
  rotate_left
  · exact if_neg (fun hh => hk hh.2)
  rw [if_pos ⟨⟨ho.plc, by omega⟩, hk⟩] at h ⊢
  rw [List.getElem?_eq_none_iff] at h ⊢
  omega
end
end Go.Proofs.Ytbimblfkkmpieaa.Bo
