/-
  Package words, told by lists: where words begin and end; what motions by words answer.
-/
import Derived.Test.YtnngcminomooeaaMv
import Derived.Test.YtnngcminomooeaaSo
set_option linter.unusedVariables false
set_option linter.unusedSimpArgs false
set_option maxRecDepth 100000
namespace Go.Proofs.Ytnngcminomooeaa.Wd
open Go Go.RowKit Go.Proofs.Ytnngcminomooeaa.Vk Go.Proofs.Ytnngcminomooeaa.Str Go.Proofs.Ytnngcminomooeaa.Ln Go.Proofs.Ytnngcminomooeaa.Cl Go.Proofs.Ytnngcminomooeaa.Mv

abbrev P2 : Type := Nat × Nat
/-- One place ahead of another. -/
def lp (a b : P2) : Bool := So.lt a.1 a.2 b.1 b.2
theorem lp_iff {a b : P2} : lp a b = true ↔ a.1 < b.1 ∨ a.1 = b.1 ∧ a.2 < b.2 := by
  unfold lp So.lt; rw [decide_eq_true_iff]; omega
theorem lp_false {a b : P2} : lp a b = false ↔ ¬ (a.1 < b.1 ∨ a.1 = b.1 ∧ a.2 < b.2) := by
  rw [← lp_iff]; simp

/-- A byte's class. -/
def kl (s : ByteArray) (big : Bool) (j : Nat) : Int := cls ((s.data.toList.getD j 0).toNat) big
theorem kl_at (s : ByteArray) (big : Bool) (j : Nat) (h : j < s.size) : cls ((s[j]'h).toNat) big = kl s big j := by
  unfold kl
  have : s.data.toList.getD j 0 = s[j]'h := by
    rw [List.getD_eq_getElem?_getD, List.getElem?_eq_getElem (by rw [size_str]; exact h)]; rfl
  rw [this]
def beg (big : Bool) (s : ByteArray) (c : Nat) : Bool := decide (kl s big c ≠ 0) && (decide (c = 0) || decide (kl s big (c - 1) ≠ kl s big c))
def fin (big : Bool) (s : ByteArray) (c : Nat) : Bool := decide (kl s big c ≠ 0) && (decide (c + 1 = s.size) || decide (kl s big (c + 1) ≠ kl s big c))

/-- The places of a line up to a column. -/
def lpt (e : Bool) (pr : ByteArray → Nat → Bool) (i : Nat) (s : ByteArray) (j : Nat) : List P2 :=
  (if e = true ∧ s.size = 0 then [(i, 0)] else []) ++ ((List.range j).filter (pr s)).map fun c => (i, c)
/-- The places of so many lines. -/
def mks (e : Bool) (pr : ByteArray → Nat → Bool) (ls : List ByteArray) (k : Nat) : List P2 := (List.range k).flatMap fun i => lpt e pr i (lineAt ls i) (lineAt ls i).size
def sts (big : Bool) (ls : List ByteArray) : List P2 := mks true (beg big) ls ls.length
def eds (big : Bool) (ls : List ByteArray) : List P2 := mks false (fin big) ls ls.length

section
variable {e : Bool} {pr : ByteArray → Nat → Bool} {ls : List ByteArray} {i n : Nat} {s : ByteArray}
theorem mks_succ (i : Nat) : mks e pr ls (i + 1) = mks e pr ls i ++ lpt e pr i (lineAt ls i) (lineAt ls i).size := by
  unfold mks; rw [List.range_succ, List.flatMap_append]; simp
theorem mks_cut (h : i < n) : ∃ r, mks e pr ls n = mks e pr ls i ++ lpt e pr i (lineAt ls i) (lineAt ls i).size ++ r := by
  obtain ⟨d, rfl⟩ : ∃ d, n = i + 1 + d := ⟨n - (i + 1), by omega⟩
  refine ⟨(List.range d).flatMap fun k => lpt e pr (i + 1 + k) (lineAt ls (i + 1 + k)) (lineAt ls (i + 1 + k)).size, ?_⟩
  rw [← mks_succ]
  unfold mks
  rw [List.range_add, List.flatMap_append, List.flatMap_map]
theorem lpt_zero (h : 0 < s.size) : lpt e pr i s 0 = [] := by
  unfold lpt; rw [if_neg (by omega)]; simp
theorem lpt_none : lpt false pr i s 0 = [] := by
  unfold lpt; rw [if_neg (by simp)]; simp
theorem lpt_empty (h : s.size = 0) : lpt true pr i s 0 = [(i, 0)] := by
  unfold lpt; rw [if_pos ⟨rfl, h⟩]; simp
theorem lpt_yes {j : Nat} (h : pr s j = true) : lpt e pr i s (j + 1) = lpt e pr i s j ++ [(i, j)] := by
  unfold lpt; rw [List.range_succ, List.filter_append, List.map_append]; simp [h]
theorem lpt_no {j : Nat} (h : pr s j = false) : lpt e pr i s (j + 1) = lpt e pr i s j := by
  unfold lpt; rw [List.range_succ, List.filter_append, List.map_append]; simp [h]
theorem lpt_cut {j k : Nat} (h : j < k) (hp : pr s j = true) : ∃ r, lpt e pr i s k = lpt e pr i s j ++ (i, j) :: r := by
  obtain ⟨d, rfl⟩ : ∃ d, k = j + 1 + d := ⟨k - (j + 1), by omega⟩
  refine ⟨(((List.range d).map (j + 1 + ·)).filter (pr s)).map fun c => (i, c), ?_⟩
  have := lpt_yes (e := e) (i := i) hp
  unfold lpt at this ⊢
  rw [List.range_add, List.filter_append, List.map_append, ← List.append_assoc, this]
  simp
/-- The next place. -/
theorem mks_at {j : Nat} (hi : i < n) (hs : s = lineAt ls i) (hj : j < s.size) (hp : pr s j = true) : ∃ r, mks e pr ls n = (mks e pr ls i ++ lpt e pr i s j) ++ (i, j) :: r := by
  obtain ⟨r, h⟩ := mks_cut (e := e) (pr := pr) (ls := ls) hi
  obtain ⟨q, h2⟩ := lpt_cut (e := e) (i := i) hj hp
  rw [← hs, h2] at h
  exact ⟨q ++ r, by rw [h]; simp⟩
theorem mks_empty (hi : i < n) (hs : s = lineAt ls i) (h0 : s.size = 0) : ∃ r, mks true pr ls n = mks true pr ls i ++ (i, 0) :: r := by
  obtain ⟨r, h⟩ := mks_cut (e := true) (pr := pr) (ls := ls) hi
  rw [← hs, h0, lpt_empty h0] at h
  exact ⟨r, by rw [h]; simp⟩
theorem lpt_mem {j : Nat} {x : P2} (h : x ∈ lpt e pr i s j) : x.1 = i ∧ (x.2 < j ∧ pr s x.2 = true ∨ e = true ∧ s.size = 0 ∧ x.2 = 0) := by
  unfold lpt at h
  rcases List.mem_append.1 h with h | h
  · split at h
    · rename_i h2
      simp only [List.mem_singleton] at h
      subst h
      exact ⟨rfl, .inr ⟨h2.1, h2.2, rfl⟩⟩
    · cases h
  · obtain ⟨c, hc, rfl⟩ := List.mem_map.1 h
    obtain ⟨h1, h2⟩ := List.mem_filter.1 hc
    exact ⟨rfl, .inl ⟨List.mem_range.1 h1, h2⟩⟩
theorem mks_mem {x : P2} (h : x ∈ mks e pr ls n) : x.1 < n ∧ (x.2 < (lineAt ls x.1).size ∧ pr (lineAt ls x.1) x.2 = true ∨ e = true ∧ (lineAt ls x.1).size = 0 ∧ x.2 = 0) := by
  unfold mks at h
  obtain ⟨i, hi, hx⟩ := List.mem_flatMap.1 h
  obtain ⟨h1, h2⟩ := lpt_mem hx
  rw [← h1] at h2 hi
  exact ⟨List.mem_range.1 hi, h2⟩
theorem mem_mks {x : P2} (h1 : x.1 < n) (h2 : x.2 < (lineAt ls x.1).size ∧ pr (lineAt ls x.1) x.2 = true ∨ e = true ∧ (lineAt ls x.1).size = 0 ∧ x.2 = 0) : x ∈ mks e pr ls n := by
  unfold mks
  refine List.mem_flatMap.2 ⟨x.1, List.mem_range.2 h1, ?_⟩
  unfold lpt
  rcases h2 with ⟨h2, h3⟩ | ⟨h2, h3, h4⟩
  · exact List.mem_append.2 (.inr (List.mem_map.2 ⟨x.2, List.mem_filter.2 ⟨List.mem_range.2 h2, h3⟩, rfl⟩))
  · refine List.mem_append.2 (.inl ?_)
    rw [if_pos ⟨h2, h3⟩, List.mem_singleton]
    obtain ⟨a, b⟩ := x
    simp only at h4
    rw [h4]
/-- They stand in order. -/
theorem lpt_sorted {j : Nat} (hj : j ≤ s.size) : (lpt e pr i s j).Pairwise fun a b => lp a b = true := by
  unfold lpt
  refine List.pairwise_append.2 ⟨by split <;> simp, ?_, ?_⟩
  · rw [List.pairwise_map]
    refine List.Pairwise.imp ?_ (List.Pairwise.filter _ List.pairwise_lt_range)
    intro a b h
    exact lp_iff.2 (.inr ⟨rfl, h⟩)
  · intro a ha b hb
    split at ha
    · rename_i h2
      obtain ⟨c, hc, rfl⟩ := List.mem_map.1 hb
      have := List.mem_range.1 (List.mem_filter.1 hc).1
      omega
    · cases ha
theorem mks_sorted (n : Nat) : (mks e pr ls n).Pairwise fun a b => lp a b = true := by
  induction n with
  | zero => exact List.Pairwise.nil
  | succ n ih =>
    rw [mks_succ]
    refine List.pairwise_append.2 ⟨ih, lpt_sorted (Nat.le_refl _), ?_⟩
    intro a ha b hb
    have h1 := (mks_mem ha).1
    have h2 := (lpt_mem hb).1
    exact lp_iff.2 (.inl (by omega))
theorem lpt_length {j : Nat} (hj : j ≤ s.size) : (lpt e pr i s j).length ≤ s.size + 1 := by
  unfold lpt
  have h1 := List.length_filter_le (pr s) (List.range j)
  rw [List.length_range] at h1
  rw [List.length_append, List.length_map]
  split <;> simp <;> omega
theorem mks_length (h : n ≤ ls.length) : (mks e pr ls n).length ≤ tz (ls.take n) := by
  induction n with
  | zero => simp [mks]
  | succ n ih =>
    rw [mks_succ, List.length_append, tz_next ls n (by omega)]
    have h1 := ih (by omega)
    have h2 := lpt_length (e := e) (pr := pr) (i := n) (s := lineAt ls n) (Nat.le_refl _)
    rw [lineAt_get (show n < ls.length by omega)] at h2 ⊢
    omega
end
theorem mks_tz (e : Bool) (pr : ByteArray → Nat → Bool) (ls : List ByteArray) : (mks e pr ls ls.length).length ≤ tz ls := by
  have := mks_length (e := e) (pr := pr) (ls := ls) (n := ls.length) (Nat.le_refl _)
  rwa [List.take_length] at this

/-- Those after a place; at or after it; before it. -/
def aft (l : List P2) (p : P2) : List P2 := l.filter fun q => lp p q
def atf (l : List P2) (p : P2) : List P2 := l.filter fun q => !lp q p
def bef (l : List P2) (p : P2) : List P2 := l.filter fun q => lp q p
theorem bef_all {l : List P2} {p : P2} (h : ∀ q ∈ l, lp q p = true) : bef l p = l := List.filter_eq_self.2 h
theorem bef_stop {l pre rest : List P2} {x p : P2} (hs : l.Pairwise fun a b => lp a b = true) (h : l = pre ++ x :: rest) (hp : ∀ q ∈ pre, lp q p = true) (hx : lp x p = false) : bef l p = pre := by
  subst h
  unfold bef
  rw [List.filter_append, List.filter_eq_self.2 hp, List.filter_eq_nil_iff.2 ?_, List.append_nil]
  intro a ha
  rw [Bool.not_eq_true]
  obtain ⟨_, h2, h3⟩ := List.pairwise_append.1 hs
  rcases List.mem_cons.1 ha with rfl | ha
  · exact hx
  · have := lp_iff.1 ((List.pairwise_cons.1 h2).1 a ha)
    have h4 := lp_false.1 hx
    exact lp_false.2 (by omega)
/-- One after the other. -/
theorem flt_next {R : P2 → P2 → Bool} (ht : ∀ a b c, R a b = true → R b c = true → R a c = true) (hn : ∀ a, R a a = false) {l : List P2} (hs : l.Pairwise fun a b => R a b = true) {p x : P2} {pre rest : List P2}
    (h : l.filter (R p) = pre ++ x :: rest) : l.filter (R x) = rest := by
  have hx : R p x = true := (List.mem_filter.1 (by rw [h]; simp : x ∈ l.filter (R p))).2
  have h1 : l.filter (R x) = (l.filter (R p)).filter (R x) := by
    rw [List.filter_filter]
    refine List.filter_congr fun y _ => ?_
    cases hy : R x y
    · rfl
    · rw [ht p x y hx hy]; rfl
  have hs2 := List.Pairwise.filter (R p) hs
  rw [h] at hs2
  rw [h1, h, List.filter_append, List.filter_cons_of_neg (by rw [hn]; simp)]
  obtain ⟨_, h2, h3⟩ := List.pairwise_append.1 hs2
  rw [List.filter_eq_nil_iff.2, List.nil_append, List.filter_eq_self.2]
  · exact fun a ha => (List.pairwise_cons.1 h2).1 a ha
  · intro a ha hxa
    have h4 := h3 a ha x (by simp)
    have := ht a x a h4 hxa
    rw [hn] at this
    cases this
theorem lp_trans (a b c : P2) (h1 : lp a b = true) (h2 : lp b c = true) : lp a c = true := by
  rw [lp_iff] at *; omega
theorem lp_irr (a : P2) : lp a a = false := lp_false.2 (by omega)
theorem aft_next {l : List P2} (hs : l.Pairwise fun a b => lp a b = true) {p x : P2} {pre rest : List P2} (h : aft l p = pre ++ x :: rest) : aft l x = rest := flt_next lp_trans lp_irr hs h
theorem bef_next {l : List P2} (hs : l.Pairwise fun a b => lp a b = true) {p x : P2} {pre rest : List P2} (h : (bef l p).reverse = pre ++ x :: rest) : (bef l x).reverse = rest := by
  unfold bef at *
  rw [← List.filter_reverse] at *
  exact flt_next (R := fun a b => lp b a) (fun a b c h1 h2 => lp_trans c b a h2 h1) lp_irr (List.pairwise_reverse.2 hs) h

/-- The k-th of a list, counted from 1. -/
def nthV (l : List P2) (k : Nat) : P2 × Bool := if l.length < k then ((0, 0), false) else (l.getD (k - 1) (0, 0), true)
theorem nthV_cap {l : List P2} (k : Nat) (h : l.length < 1073741824) : nthV l (min k 1073741824) = nthV l k := by
  unfold nthV
  by_cases hk : l.length < k
  · rw [if_pos hk, if_pos (by omega)]
  · rw [if_neg hk, if_neg (by omega), show min k 1073741824 = k by omega]
theorem nthV_yes {l : List P2} {k : Nat} (h0 : 0 < k) (h : k ≤ l.length) : ∃ pre x rest, l = pre ++ x :: rest ∧ pre.length = k - 1 ∧ nthV l k = (x, true) := by
  have hl : k - 1 < l.length := by omega
  refine ⟨l.take (k - 1), l[k - 1], l.drop (k - 1 + 1), ?_, by rw [List.length_take]; omega, ?_⟩
  · rw [← List.drop_eq_getElem_cons hl, List.take_append_drop]
  · unfold nthV
    rw [if_neg (by omega), List.getD_eq_getElem?_getD, List.getElem?_eq_getElem hl]; rfl
theorem nthV_no {l : List P2} {k : Nat} (h : l.length < k) : nthV l k = ((0, 0), false) := if_pos h
theorem nthV_eq {l pre rest : List P2} {x : P2} {k : Nat} (h : l = pre ++ x :: rest) (hk : pre.length + 1 = k) : nthV l k = (x, true) := by
  unfold nthV
  subst h hk
  rw [if_neg (by simp), List.getD_eq_getElem?_getD]
  simp
/-- The end of a line. -/
def endP (ls : List ByteArray) (i : Nat) : P2 := (i, (lineAt ls i).size)
/-- Where an operator goes. -/
def opG (ls : List ByteArray) (p : P2) (l : List P2) (k : Nat) : P2 :=
  if k ≤ l.length then
    let x := l.getD (k - 1) (0, 0)
    let f := if 1 < k then l.getD (k - 2) (0, 0) else p
    if f.1 < x.1 then endP ls f.1 else x
  else endP ls (ls.length - 1)
def opV (ls : List ByteArray) (p : P2) (l : List P2) (k : Nat) : P2 × Bool :=
  if l.length < k - 1 then ((0, 0), false) else (opG ls p l k, lp p (opG ls p l k))
theorem opV_cap {ls : List ByteArray} {p : P2} {l : List P2} (k : Nat) (h : l.length + 1 < 1073741824) : opV ls p l (min k 1073741824) = opV ls p l k := by
  unfold opV
  by_cases hk : l.length < k - 1
  · rw [if_pos hk, if_pos (by omega)]
  · rw [show min k 1073741824 = k by omega]
/-- A motion to a place, or one that fails. -/
def mvd (t : P2 × Bool) (way : Int) : R := if t.2 = true then ⟨t.1.1, t.1.2, way, false, -1, true⟩ else R.no
/-- Where p is a place and n a count. -/
def ifm (ls : List ByteArray) (l c n : Int) (r : P2 → Nat → R) : R := if Plc ls l c ∧ 1 ≤ n then r (l.toNat, c.toNat) n.toNat else R.no
theorem ifm_no {ls : List ByteArray} {l c n : Int} {r : P2 → Nat → R} (h : ¬ (Plc ls l c ∧ 1 ≤ n)) : ifm ls l c n r = R.no := if_neg h
theorem ifm_yes {ls : List ByteArray} {i k m : Nat} {r : P2 → Nat → R} (h : Plc ls (i : Int) (k : Int)) (hm : 1 ≤ m) : ifm ls i k m r = r (i, k) m := if_pos ⟨h, by omega⟩
def nextR (ls : List ByteArray) (l c n : Int) (big op : Bool) : R := ifm ls l c n fun p k => mvd (if op = true then opV ls p (aft (sts big ls) p) k else nthV (aft (sts big ls) p) k) 0
def backR (ls : List ByteArray) (l c n : Int) (big : Bool) : R := ifm ls l c n fun p k => mvd (nthV (bef (sts big ls) p).reverse k) 0
def tailR (ls : List ByteArray) (l c n : Int) (big here : Bool) : R := ifm ls l c n fun p k => mvd (nthV (if here = true then atf (eds big ls) p else aft (eds big ls) p) k) 1
def btailR (ls : List ByteArray) (l c n : Int) (big : Bool) : R := ifm ls l c n fun p k => mvd (nthV (bef (eds big ls) p).reverse k) 1
end Go.Proofs.Ytnngcminomooeaa.Wd
