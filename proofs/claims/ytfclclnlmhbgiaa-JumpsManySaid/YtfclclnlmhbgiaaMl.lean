/-
  Marks as lists: which marks are set, each with its place, in the order of their names. No program in sight.
-/
import Derived.Test.YtfclclnlmhbgiaaKit
set_option linter.unusedVariables false
set_option linter.unusedSimpArgs false
set_option maxRecDepth 100000
namespace Go.Proofs.Ytfclclnlmhbgiaa.Ml

abbrev P2 := Int × Int
/-- The marks that are set. -/
abbrev ML := List (Nat × P2)
def lk : ML → Nat → Option P2
  | [], _ => none
  | x :: L, c => if x.1 = c then some x.2 else lk L c
def Srt (L : ML) : Prop := L.Pairwise fun a b => a.1 < b.1
/-- The names that a mark may have. -/
def Rng (L : ML) : Prop := ∀ x ∈ L, 96 ≤ x.1 ∧ x.1 ≤ 122
def ins : ML → Nat → P2 → ML
  | [], c, p => [(c, p)]
  | x :: L, c, p => if x.1 < c then x :: ins L c p else if x.1 = c then (c, p) :: L else (c, p) :: x :: L

theorem look_none {L : ML} {c : Nat} (h : ∀ x ∈ L, x.1 ≠ c) : lk L c = none := by
  induction L with
  | nil => rfl
  | cons x L ih =>
    unfold lk
    rw [if_neg (h x List.mem_cons_self)]
    exact ih fun y hy => h y (List.mem_cons_of_mem _ hy)
theorem look_mem {L : ML} {c : Nat} {p : P2} (h : lk L c = some p) : (c, p) ∈ L := by
  induction L with
  | nil => cases h
  | cons x L ih =>
    unfold lk at h
    split at h
    · rename_i hx
      cases h
      subst hx
      exact List.mem_cons_self
    · exact List.mem_cons_of_mem _ (ih h)
theorem look_some {L : ML} (hs : Srt L) {x : Nat × P2} (h : x ∈ L) : lk L x.1 = some x.2 := by
  induction L with
  | nil => cases h
  | cons y L ih =>
    obtain ⟨h1, h2⟩ := List.pairwise_cons.1 hs
    unfold lk
    rcases List.mem_cons.1 h with rfl | h
    · rw [if_pos rfl]
    · rw [if_neg (by have := h1 x h; omega)]
      exact ih h2 h
theorem look_eq {x : Nat × P2} {L : ML} {c : Nat} (h : x.1 = c) : lk (x :: L) c = some x.2 := if_pos h
theorem look_ne {x : Nat × P2} {L : ML} {c : Nat} (h : x.1 ≠ c) : lk (x :: L) c = lk L c := if_neg h
theorem look_app (A B : ML) (c : Nat) : lk (A ++ B) c = (lk A c).orElse fun _ => lk B c := by
  induction A with
  | nil => rfl
  | cons x A ih =>
    rw [List.cons_append]
    by_cases h : x.1 = c
    · rw [look_eq h, look_eq h]; rfl
    · rw [look_ne h, look_ne h]; exact ih
theorem look_ins (L : ML) (c : Nat) (p : P2) (d : Nat) : lk (ins L c p) d = if d = c then some p else lk L d := by
  induction L with
  | nil =>
    simp only [ins, lk]
    by_cases h : d = c
    · rw [if_pos h.symm, if_pos h]
    · rw [if_neg (Ne.symm h), if_neg h]
  | cons x L ih =>
    unfold ins
    split
    · rename_i hx
      simp only [lk]
      by_cases h : d = c
      · rw [if_neg (by omega), ih, if_pos h, if_pos h]
      · rw [ih, if_neg h, if_neg h]
    · split
      · rename_i h1 h2
        simp only [lk]
        by_cases h : d = c
        · rw [if_pos h.symm, if_pos h]
        · rw [if_neg (Ne.symm h), if_neg h, if_neg (by omega)]
      · simp only [lk]
        by_cases h : d = c
        · rw [if_pos h.symm, if_pos h]
        · rw [if_neg (Ne.symm h), if_neg h]
theorem mem_ins {L : ML} {c : Nat} {p : P2} {y : Nat × P2} (h : y ∈ ins L c p) : y = (c, p) ∨ y ∈ L := by
  induction L with
  | nil => exact .inl (by simpa [ins] using h)
  | cons x L ih =>
    unfold ins at h
    split at h
    · rcases List.mem_cons.1 h with rfl | h
      · exact .inr List.mem_cons_self
      · exact (ih h).imp id (List.mem_cons_of_mem _)
    · split at h
      · rcases List.mem_cons.1 h with rfl | h
        · exact .inl rfl
        · exact .inr (List.mem_cons_of_mem _ h)
      · rcases List.mem_cons.1 h with rfl | h
        · exact .inl rfl
        · exact .inr h
theorem srt_ins {L : ML} (h : Srt L) (c : Nat) (p : P2) : Srt (ins L c p) := by
  induction L with
  | nil => exact List.pairwise_singleton _ _
  | cons x L ih =>
    obtain ⟨h1, h2⟩ := List.pairwise_cons.1 h
    unfold ins
    split
    · rename_i hx
      refine List.pairwise_cons.2 ⟨fun y hy => ?_, ih h2⟩
      rcases mem_ins hy with rfl | hy
      · exact hx
      · exact h1 y hy
    · split
      · rename_i hx hc
        refine List.pairwise_cons.2 ⟨fun y hy => ?_, h2⟩
        have := h1 y hy
        show c < y.1
        omega
      · rename_i hx hc
        refine List.pairwise_cons.2 ⟨fun y hy => ?_, h⟩
        show c < y.1
        rcases List.mem_cons.1 hy with rfl | hy
        · omega
        · have := h1 y hy; omega
theorem rng_ins {L : ML} (h : Rng L) {c : Nat} (hc : 96 ≤ c ∧ c ≤ 122) (p : P2) : Rng (ins L c p) := fun y hy => by
  rcases mem_ins hy with rfl | hy
  · exact hc
  · exact h y hy
theorem length_ins {L : ML} (h : Srt L) (c : Nat) (p : P2) : (ins L c p).length = L.length + if (lk L c).isSome = true then 0 else 1 := by
  induction L with
  | nil => rfl
  | cons x L ih =>
    obtain ⟨h1, h2⟩ := List.pairwise_cons.1 h
    unfold ins
    by_cases hx : x.1 < c
    · rw [if_pos hx, List.length_cons, ih h2, look_ne (by omega), List.length_cons]
      omega
    · rw [if_neg hx]
      by_cases hc : x.1 = c
      · rw [if_pos hc, look_eq hc]
        rfl
      · rw [if_neg hc, look_ne hc, look_none fun y hy => by have := h1 y hy; omega]
        rfl
/-- Where a name stands, or would stand. -/
theorem ins_at {L : ML} {c k : Nat} (p : P2) (hk : k ≤ L.length) (hb : ∀ j, ∀ h : j < L.length, j < k → L[j].1 < c) :
    (∀ h : k < L.length, L[k].1 = c → ins L c p = L.set k (c, p)) ∧ ((∀ h : k < L.length, c < L[k].1) → ins L c p = L.take k ++ (c, p) :: L.drop k) := by
  induction L generalizing k with
  | nil =>
    obtain rfl : k = 0 := by simpa using hk
    exact ⟨fun h => by simp at h, fun _ => rfl⟩
  | cons x L ih =>
    cases k with
    | zero =>
      refine ⟨fun h hc => ?_, fun hc => ?_⟩
      · have hc' : x.1 = c := hc
        unfold ins
        rw [if_neg (by omega), if_pos hc']
        rfl
      · have hc' : c < x.1 := hc (by simp)
        unfold ins
        rw [if_neg (by omega), if_neg (by omega)]
        rfl
    | succ k =>
      have h0 : x.1 < c := hb 0 (by simp) (by omega)
      obtain ⟨i1, i2⟩ := ih (k := k) (by simpa using hk) fun j h hj => hb (j + 1) (by simpa using h) (by omega)
      unfold ins
      rw [if_pos h0]
      refine ⟨fun h hc => ?_, fun hc => ?_⟩
      · rw [i1 (by simpa using h) hc]
        rfl
      · rw [i2 fun h => hc (by simpa using h)]
        rfl

/-- What set does. -/
def nam (c : Nat) : Bool := decide (96 ≤ c ∧ c ≤ 122)
def setL (L : ML) (c : Nat) (p : P2) : ML := if nam c = true then ins L c p else L
theorem setL_yes {L : ML} {c : Nat} {p : P2} (h : nam c = true) : setL L c p = ins L c p := if_pos h
theorem setL_no {L : ML} {c : Nat} {p : P2} (h : nam c = false) : setL L c p = L := if_neg (by rw [h]; exact Bool.false_ne_true)
theorem srt_set {L : ML} (h : Srt L) (c : Nat) (p : P2) : Srt (setL L c p) := by
  unfold setL
  split
  · exact srt_ins h c p
  · exact h
theorem rng_set {L : ML} (h : Rng L) (c : Nat) (p : P2) : Rng (setL L c p) := by
  unfold setL
  split
  · rename_i hc
    exact rng_ins h (by simpa [nam] using hc) p
  · exact h

/-- Where a line is behind a change. -/
def shf (l a o n : Int) : Option Int :=
  if a < 0 ∨ 1073741824 < a ∨ o < 0 ∨ 1073741824 < o ∨ n < 0 ∨ 1073741824 < n ∨ l < a then some l
  else if l - a < o then (if l - a < n then some l else none) else some (l - o + n)
def one (x : Nat × P2) (a o n : Int) : Option (Nat × P2) := (shf x.2.1 a o n).map fun l => (x.1, (l, x.2.2))
def adj (L : ML) (a o n : Int) : ML := L.filterMap fun x => one x a o n
theorem one_name {x y : Nat × P2} {a o n : Int} (h : one x a o n = some y) : y.1 = x.1 := by
  unfold one at h
  cases hs : shf x.2.1 a o n with
  | none => rw [hs] at h; cases h
  | some l => rw [hs] at h; simp at h; rw [← h]
theorem mem_adj {L : ML} {a o n : Int} {y : Nat × P2} (h : y ∈ adj L a o n) : ∃ x ∈ L, one x a o n = some y := by
  obtain ⟨x, hx, hy⟩ := List.mem_filterMap.1 h
  exact ⟨x, hx, hy⟩
theorem srt_adj {L : ML} (h : Srt L) (a o n : Int) : Srt (adj L a o n) := by
  unfold Srt adj
  rw [List.pairwise_filterMap]
  exact h.imp fun {x y} hxy x' hx y' hy => by rw [one_name hx, one_name hy]; exact hxy
theorem rng_adj {L : ML} (h : Rng L) (a o n : Int) : Rng (adj L a o n) := fun y hy => by
  obtain ⟨x, hx, hy⟩ := mem_adj hy
  rw [one_name hy]
  exact h x hx
theorem adj_take {L : ML} {k : Nat} (h : k < L.length) (a o n : Int) : adj (L.take (k + 1)) a o n = adj (L.take k) a o n ++ (one L[k] a o n).toList := by
  rw [← List.take_append_getElem h]
  unfold adj
  rw [List.filterMap_append, List.filterMap_cons, List.filterMap_nil]
  cases one L[k] a o n <;> rfl

/-- Between the rounds of a change. -/
def midL (L : ML) (a o n : Int) (k : Nat) : ML := adj (L.take k) a o n ++ L.drop k
theorem mid_zero (L : ML) (a o n : Int) : midL L a o n 0 = L := rfl
theorem mid_end (L : ML) (a o n : Int) : midL L a o n L.length = adj L a o n := by
  unfold midL
  rw [List.take_length, List.drop_length, List.append_nil]
theorem srt_lt {L : ML} (h : Srt L) {i j : Nat} (hi : i < j) (hj : j < L.length) : (L[i]'(by omega)).1 < L[j].1 := List.pairwise_iff_getElem.1 h i j (by omega) hj hi
theorem adj_ahead {L : ML} (h : Srt L) {a o n : Int} {k : Nat} (hk : k < L.length) : ∀ x ∈ adj (L.take k) a o n, x.1 < L[k].1 := fun x hx => by
  obtain ⟨y, hy, hxy⟩ := mem_adj hx
  rw [one_name hxy]
  obtain ⟨i, hi, rfl⟩ := List.getElem_of_mem hy
  rw [List.length_take] at hi
  rw [List.getElem_take]
  exact srt_lt h (by omega) hk
theorem look_mid {L : ML} (h : Srt L) {a o n : Int} {k : Nat} (hk : k < L.length) : lk (midL L a o n k) L[k].1 = some L[k].2 := by
  unfold midL
  rw [look_app, look_none fun x hx => by have := adj_ahead h hk x hx; omega, List.drop_eq_getElem_cons hk]
  show lk (L[k] :: L.drop (k + 1)) L[k].1 = _
  exact look_eq rfl
theorem drop_behind {L : ML} (h : Srt L) {k : Nat} (hk : k < L.length) : ∀ x ∈ L.drop (k + 1), L[k].1 < x.1 := fun x hx => by
  obtain ⟨i, hi, rfl⟩ := List.getElem_of_mem hx
  rw [List.getElem_drop]
  rw [List.length_drop] at hi
  exact srt_lt h (by omega) (by omega)
theorem mid_succ {L : ML} {k : Nat} (hk : k < L.length) (a o n : Int) : midL L a o n (k + 1) = adj (L.take k) a o n ++ ((one L[k] a o n).toList ++ L.drop (k + 1)) := by
  unfold midL
  rw [adj_take hk, List.append_assoc]
theorem mid_now {L : ML} {k : Nat} (hk : k < L.length) (a o n : Int) : midL L a o n k = adj (L.take k) a o n ++ (L[k] :: L.drop (k + 1)) := by
  unfold midL
  rw [List.drop_eq_getElem_cons hk]
theorem look_gone {L : ML} (h : Srt L) {a o n : Int} {k : Nat} (hk : k < L.length) (hg : shf L[k].2.1 a o n = none) (d : Nat) :
    lk (midL L a o n (k + 1)) d = if d = L[k].1 then none else lk (midL L a o n k) d := by
  have h1 : one L[k] a o n = none := by unfold one; rw [hg]; rfl
  rw [mid_succ hk, mid_now hk, h1]
  show lk (adj (L.take k) a o n ++ L.drop (k + 1)) d = _
  rw [look_app, look_app]
  split
  · rename_i e
    rw [look_none fun x hx => by have := adj_ahead h hk x hx; omega, look_none fun x hx => by have := drop_behind h hk x hx; omega]
    rfl
  · rename_i e
    congr 1
    funext _
    show _ = lk (L[k] :: L.drop (k + 1)) d
    exact (look_ne (Ne.symm e)).symm
theorem length_gone {L : ML} {a o n : Int} {k : Nat} (hk : k < L.length) (hg : shf L[k].2.1 a o n = none) : (midL L a o n (k + 1)).length + 1 = (midL L a o n k).length := by
  have h1 : one L[k] a o n = none := by unfold one; rw [hg]; rfl
  rw [mid_succ hk, mid_now hk, h1]
  simp only [Option.toList_none, List.nil_append, List.length_append, List.length_cons]
  omega
theorem look_moved {L : ML} (h : Srt L) {a o n l : Int} {k : Nat} (hk : k < L.length) (hg : shf L[k].2.1 a o n = some l) (d : Nat) :
    lk (midL L a o n (k + 1)) d = if d = L[k].1 then some (l, L[k].2.2) else lk (midL L a o n k) d := by
  have h1 : one L[k] a o n = some (L[k].1, (l, L[k].2.2)) := by unfold one; rw [hg]; rfl
  rw [mid_succ hk, mid_now hk, h1]
  show lk (adj (L.take k) a o n ++ ((L[k].1, (l, L[k].2.2)) :: L.drop (k + 1))) d = _
  rw [look_app, look_app]
  split
  · rename_i e
    rw [look_none fun x hx => by have := adj_ahead h hk x hx; omega]
    show lk ((L[k].1, (l, L[k].2.2)) :: L.drop (k + 1)) d = _
    exact look_eq (x := (L[k].1, (l, L[k].2.2))) e.symm
  · rename_i e
    congr 1
    funext _
    exact (look_ne (x := (L[k].1, (l, L[k].2.2))) (Ne.symm e)).trans (look_ne (Ne.symm e)).symm
theorem length_moved {L : ML} {a o n l : Int} {k : Nat} (hk : k < L.length) (hg : shf L[k].2.1 a o n = some l) : (midL L a o n (k + 1)).length = (midL L a o n k).length := by
  have h1 : one L[k] a o n = some (L[k].1, (l, L[k].2.2)) := by unfold one; rw [hg]; rfl
  rw [mid_succ hk, mid_now hk, h1]
  simp only [Option.toList_some, List.singleton_append, List.length_append, List.length_cons]

/-- The names, in order. -/
def nms (L : ML) : List Nat := L.map (·.1)
theorem look_isSome {L : ML} (hs : Srt L) (c : Nat) : (lk L c).isSome = true ↔ c ∈ nms L := by
  constructor
  · intro h
    obtain ⟨p, hp⟩ := Option.isSome_iff_exists.1 h
    exact List.mem_map.2 ⟨_, look_mem hp, rfl⟩
  · intro h
    obtain ⟨x, hx, rfl⟩ := List.mem_map.1 h
    rw [look_some hs hx]
    rfl
theorem eq_sorted : ∀ {l m : List Nat}, l.Pairwise (· < ·) → m.Pairwise (· < ·) → (∀ x, x ∈ l ↔ x ∈ m) → l = m
  | [], [], _, _, _ => rfl
  | [], b :: m, _, _, h => by have := (h b).2 List.mem_cons_self; cases this
  | a :: l, [], _, _, h => by have := (h a).1 List.mem_cons_self; cases this
  | a :: l, b :: m, hl, hm, h => by
    obtain ⟨h1, h2⟩ := List.pairwise_cons.1 hl
    obtain ⟨h3, h4⟩ := List.pairwise_cons.1 hm
    have hab : a = b := by
      rcases List.mem_cons.1 ((h a).1 List.mem_cons_self) with e | e
      · exact e
      · rcases List.mem_cons.1 ((h b).2 List.mem_cons_self) with e2 | e2
        · exact e2.symm
        · have := h1 b e2; have := h3 a e; omega
    subst hab
    rw [eq_sorted h2 h4 fun x => ⟨fun hx => ?_, fun hx => ?_⟩]
    · rcases List.mem_cons.1 ((h x).1 (List.mem_cons_of_mem _ hx)) with e | e
      · subst e; have := h1 x hx; omega
      · exact e
    · rcases List.mem_cons.1 ((h x).2 (List.mem_cons_of_mem _ hx)) with e | e
      · subst e; have := h3 x hx; omega
      · exact e
theorem srt_nms {L : ML} (h : Srt L) : (nms L).Pairwise (· < ·) := by
  unfold nms
  rw [List.pairwise_map]
  exact h
/-- The names that were asked for so far, of those that are set. -/
def upK (L : ML) (k : Nat) : List Nat := (List.range' 96 k).filter fun c => (lk L c).isSome
theorem upK_zero (L : ML) : upK L 0 = [] := rfl
theorem upK_succ (L : ML) (k : Nat) : upK L (k + 1) = upK L k ++ if (lk L (96 + k)).isSome = true then [96 + k] else [] := by
  unfold upK
  rw [List.range'_concat, List.filter_append]
  congr 1
  simp only [Nat.one_mul, List.filter_cons, List.filter_nil]
theorem upK_end {L : ML} (hs : Srt L) (hr : Rng L) : upK L 27 = nms L := by
  refine eq_sorted ((List.pairwise_lt_range' (s := 96) (n := 27)).filter _) (srt_nms hs) fun x => ?_
  unfold upK
  rw [List.mem_filter]
  constructor
  · rintro ⟨_, h⟩
    exact (look_isSome hs x).1 h
  · intro h
    refine ⟨?_, (look_isSome hs x).2 h⟩
    obtain ⟨y, hy, rfl⟩ := List.mem_map.1 h
    have := hr y hy
    rw [List.mem_range'_1]
    omega
theorem length_upK (L : ML) (k : Nat) : (upK L k).length ≤ k := by
  unfold upK
  refine Nat.le_trans (List.length_filter_le _ _) ?_
  rw [List.length_range']
  exact Nat.le_refl _
theorem length_rng {L : ML} (hs : Srt L) (hr : Rng L) : L.length ≤ 27 := by
  have h1 := length_upK L 27
  rw [upK_end hs hr] at h1
  unfold nms at h1
  rwa [List.length_map] at h1
/-- The places that a change leaves: none further off than it moves. -/
def Bnd (M : Int) (L : ML) : Prop := ∀ x ∈ L, -M ≤ x.2.1 ∧ x.2.1 ≤ M
end Go.Proofs.Ytfclclnlmhbgiaa.Ml
