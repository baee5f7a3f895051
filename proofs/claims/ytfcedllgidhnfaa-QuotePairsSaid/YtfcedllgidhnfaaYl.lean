/-
  A line's pairs of one byte, the blanks beside a pair: lists, no program in sight.
-/
import Derived.Test.YtfcedllgidhnfaaOj
set_option linter.unusedVariables false
set_option linter.unusedSimpArgs false
set_option maxRecDepth 100000
namespace Go.Proofs.Ytfcedllgidhnfaa.Wo
open Go Go.RowKit Go.Proofs.Ytfcedllgidhnfaa.Vk Go.Proofs.Ytfcedllgidhnfaa.Str Go.Proofs.Ytfcedllgidhnfaa.Ln Go.Proofs.Ytfcedllgidhnfaa.Cl Go.Proofs.Ytfcedllgidhnfaa.Mv

/-- A byte as a number. -/
def bt (s : ByteArray) (j : Nat) : Int := ((s.data.toList.getD j 0).toNat : Int)
theorem bt_at (s : ByteArray) (j : Nat) (h : j < s.size) : ((s[j]'h).toNat : Int) = bt s j := by
  unfold bt
  have : s.data.toList.getD j 0 = s[j]'h := by
    rw [List.getD_eq_getElem?_getD, List.getElem?_eq_getElem (by rw [size_str]; exact h)]; rfl
  rw [this]
theorem kl_bt (s : ByteArray) (b : Bool) (j : Nat) : kl s b j = Cl.cls (bt s j) b := rfl
theorem kl_blank (s : ByteArray) (j : Nat) : kl s true j = 0 ↔ bt s j = 32 ∨ bt s j = 9 := by
  rw [kl_bt]; unfold Cl.cls; repeat' split
  all_goals simp_all

/-- The pairs among a line's first bytes; what waits. -/
def pq (s : ByteArray) (q : Int) : Nat → List RN × Option Nat
  | 0 => ([], none)
  | i + 1 => if bt s i = q then (match (pq s q i).2 with
      | none => ((pq s q i).1, some i)
      | some f => ((pq s q i).1 ++ [(f, i)], none)) else pq s q i
/-- A line's pairs. -/
def qs (s : ByteArray) (q : Int) : List RN := (pq s q s.size).1
section
variable {s : ByteArray} {q : Int}
theorem pq_no {i : Nat} (h : bt s i ≠ q) : pq s q (i + 1) = pq s q i := by rw [pq, if_neg h]
theorem pq_open {i : Nat} (h : bt s i = q) (h2 : (pq s q i).2 = none) : pq s q (i + 1) = ((pq s q i).1, some i) := by
  rw [pq, if_pos h, h2]
theorem pq_close {i f : Nat} (h : bt s i = q) (h2 : (pq s q i).2 = some f) : pq s q (i + 1) = ((pq s q i).1 ++ [(f, i)], none) := by
  rw [pq, if_pos h, h2]
theorem pq_pre (i : Nat) : ∀ n, i ≤ n → ∃ r, (pq s q n).1 = (pq s q i).1 ++ r := by
  intro n
  induction n with
  | zero => intro h; obtain rfl : i = 0 := by omega
            exact ⟨[], by simp⟩
  | succ n ih =>
    intro h
    by_cases he : i = n + 1
    · subst he; exact ⟨[], by simp⟩
    obtain ⟨r, hr⟩ := ih (by omega)
    by_cases hb : bt s n = q
    · cases h2 : (pq s q n).2 with
      | none => exact ⟨r, by rw [pq_open hb h2]; exact hr⟩
      | some f => exact ⟨r ++ [(f, n)], by rw [pq_close hb h2]; simp only; rw [hr, List.append_assoc]⟩
    · exact ⟨r, by rw [pq_no hb]; exact hr⟩
theorem qs_close {i f : Nat} (hi : i < s.size) (h : bt s i = q) (h2 : (pq s q i).2 = some f) : ∃ r, qs s q = (pq s q i).1 ++ (f, i) :: r := by
  obtain ⟨r, hr⟩ := pq_pre (s := s) (q := q) (i + 1) s.size (by omega)
  refine ⟨r, ?_⟩
  unfold qs
  rw [hr, pq_close h h2]; simp
/-- What is true of a pair. -/
structure Pr (s : ByteArray) (q : Int) (n : Nat) (x : RN) : Prop where
  lt : x.1 < x.2
  le : x.2 < n
  fst : bt s x.1 = q
  snd : bt s x.2 = q
  mid : ∀ j, x.1 < j → j < x.2 → bt s j ≠ q
theorem pq_all : ∀ n, (∀ x ∈ (pq s q n).1, Pr s q n x) ∧ (∀ f, (pq s q n).2 = some f → f < n ∧ bt s f = q ∧ ∀ j, f < j → j < n → bt s j ≠ q) ∧ (pq s q n).1.length ≤ n := by
  intro n
  induction n with
  | zero => exact ⟨fun x h => by simp [pq] at h, fun f h => by simp [pq] at h, by simp [pq]⟩
  | succ n ih =>
    obtain ⟨h1, h2, h3⟩ := ih
    have h1' : ∀ x ∈ (pq s q n).1, Pr s q (n + 1) x := fun x h => by
      obtain ⟨a, b, c, d, e⟩ := h1 x h
      exact ⟨a, by omega, c, d, e⟩
    by_cases hb : bt s n = q
    · cases hw : (pq s q n).2 with
      | none =>
        rw [pq_open hb hw]
        refine ⟨h1', fun f e => ?_, by simp only; omega⟩
        injection e with e; subst e
        exact ⟨by omega, hb, fun j g1 g2 => by omega⟩
      | some f =>
        rw [pq_close hb hw]
        obtain ⟨w1, w2, w3⟩ := h2 f hw
        refine ⟨fun x hx => ?_, fun f e => (by cases e), by simp; omega⟩
        rcases List.mem_append.1 hx with hx | hx
        · exact h1' x hx
        · obtain rfl : x = (f, n) := by simpa using hx
          exact ⟨w1, by simp, w2, hb, w3⟩
    · rw [pq_no hb]
      refine ⟨h1', fun f e => ?_, by omega⟩
      obtain ⟨w1, w2, w3⟩ := h2 f e
      refine ⟨by omega, w2, fun j g1 g2 => ?_⟩
      by_cases hj : j = n
      · subst hj; exact hb
      · exact w3 j g1 (by omega)
theorem qs_mem {x : RN} (h : x ∈ qs s q) : Pr s q s.size x := (pq_all s.size).1 x h
theorem qs_len : (qs s q).length ≤ s.size := (pq_all s.size).2.2
end

/-- The first byte behind the blanks from i on; k bytes are left. -/
def fbk (s : ByteArray) : Nat → Nat → Nat
  | i, 0 => i
  | i, k + 1 => if kl s true i = 0 then fbk s (i + 1) k else i
def fb (s : ByteArray) (i : Nat) : Nat := fbk s i (s.size - i)
/-- The first of the blanks ahead of a. -/
def bb0 (s : ByteArray) : Nat → Nat
  | 0 => 0
  | a + 1 => if kl s true a = 0 then bb0 s a else a + 1
section
variable {s : ByteArray}
theorem fb_yes {i : Nat} (h : i < s.size) (h2 : kl s true i = 0) : fb s (i + 1) = fb s i := by
  unfold fb
  obtain ⟨k, hk⟩ : ∃ k, s.size - i = k + 1 := ⟨s.size - i - 1, by omega⟩
  rw [hk, fbk, if_pos h2, show s.size - (i + 1) = k by omega]
theorem fb_no {i : Nat} (h : i < s.size) (h2 : kl s true i ≠ 0) : fb s i = i := by
  unfold fb
  obtain ⟨k, hk⟩ : ∃ k, s.size - i = k + 1 := ⟨s.size - i - 1, by omega⟩
  rw [hk, fbk, if_neg h2]
theorem fb_end {i : Nat} (h : s.size ≤ i) : fb s i = i := by
  unfold fb
  rw [show s.size - i = 0 by omega]; rfl
theorem bb0_yes {a : Nat} (h2 : kl s true a = 0) : bb0 s a = bb0 s (a + 1) := by rw [bb0, if_pos h2]
theorem bb0_no {a : Nat} (h2 : kl s true a ≠ 0) : bb0 s (a + 1) = a + 1 := by rw [bb0, if_neg h2]
theorem fbk_all : ∀ k i, i ≤ fbk s i k ∧ fbk s i k ≤ i + k ∧ ∀ j, i ≤ j → j < fbk s i k → kl s true j = 0 := by
  intro k
  induction k with
  | zero => intro i; exact ⟨Nat.le_refl _, Nat.le_refl _, fun j h1 h2 => by simp only [fbk] at h2; omega⟩
  | succ k ih =>
    intro i
    by_cases h : kl s true i = 0
    · rw [fbk, if_pos h]
      obtain ⟨h1, h2, h3⟩ := ih (i + 1)
      refine ⟨by omega, by omega, fun j g1 g2 => ?_⟩
      by_cases hj : j = i
      · subst hj; exact h
      · exact h3 j (by omega) g2
    · rw [fbk, if_neg h]
      exact ⟨Nat.le_refl _, by omega, fun j h1 h2 => by omega⟩
theorem fb_all {i : Nat} (h : i ≤ s.size) : i ≤ fb s i ∧ fb s i ≤ s.size ∧ ∀ j, i ≤ j → j < fb s i → kl s true j = 0 := by
  have := fbk_all (s := s) (s.size - i) i
  exact ⟨this.1, by have := this.2.1; unfold fb; omega, this.2.2⟩
theorem bb0_all : ∀ a, bb0 s a ≤ a ∧ ∀ j, bb0 s a ≤ j → j < a → kl s true j = 0 := by
  intro a
  induction a with
  | zero => exact ⟨Nat.le_refl _, fun j h1 h2 => by omega⟩
  | succ a ih =>
    by_cases h : kl s true a = 0
    · rw [bb0, if_pos h]
      refine ⟨by have := ih.1; omega, fun j g1 g2 => ?_⟩
      by_cases hj : j = a
      · subst hj; exact h
      · exact ih.2 j g1 (by omega)
    · rw [bb0_no h]
      exact ⟨Nat.le_refl _, fun j h1 h2 => by omega⟩
end
/-- The first pair that doesn't end ahead of c. -/
def fnd (l : List RN) (c : Nat) : Option RN := l.find? fun x => decide (c ≤ x.2)
theorem fnd_here {pre rest : List RN} {x : RN} {c : Nat} (h : ∀ y ∈ pre, y.2 < c) (hx : c ≤ x.2) : fnd (pre ++ x :: rest) c = some x := by
  unfold fnd
  rw [List.find?_append]
  rw [List.find?_eq_none.2 (fun y hy => by have := h y hy; simp; omega)]
  simp [hx]
theorem fnd_none {l : List RN} {c : Nat} (h : ∀ y ∈ l, y.2 < c) : fnd l c = none := by
  unfold fnd
  exact List.find?_eq_none.2 (fun y hy => by have := h y hy; simp; omega)
theorem fnd_some {l : List RN} {c : Nat} {x : RN} (h : fnd l c = some x) : x ∈ l ∧ c ≤ x.2 := by
  unfold fnd at h
  exact ⟨List.mem_of_find?_eq_some h, by simpa using List.find?_some h⟩
/-- A pair with the blanks on one side of it. -/
def brd (s : ByteArray) (x : RN) : RN := if fb s (x.2 + 1) = x.2 + 1 then (bb0 s x.1, x.2 + 1) else (x.1, fb s (x.2 + 1))
def ins (x : RN) : RN := (x.1 + 1, x.2)
/-- The pair of a place. -/
def pof (ls : List ByteArray) (q l c : Int) : Option RN := if On ls l c then fnd (qs (lineAt ls l.toNat) q) c.toNat else none
/-- What Inner, Around answer. -/
def inQ (ls : List ByteArray) (q l c : Int) : Option RN := (pof ls q l c).map ins
def arQ (ls : List ByteArray) (q l c : Int) : Option RN := (pof ls q l c).map (brd (lineAt ls l.toNat))
section
variable {ls : List ByteArray} {q l c : Int}
theorem pof_no (h : ¬ On ls l c) : pof ls q l c = none := if_neg h
theorem pof_yes {i k : Nat} (h : On ls i k) : pof ls q i k = fnd (qs (lineAt ls i) q) k := by
  unfold pof; rw [if_pos h]; simp
theorem pof_some {x : RN} (h : pof ls q l c = some x) : On ls l c ∧ Pr (lineAt ls l.toNat) q (lineAt ls l.toNat).size x ∧ c.toNat ≤ x.2 := by
  by_cases ho : On ls l c
  · unfold pof at h
    rw [if_pos ho] at h
    obtain ⟨h1, h2⟩ := fnd_some h
    exact ⟨ho, qs_mem h1, h2⟩
  · rw [pof_no ho] at h; cases h
theorem inQ_none (h : pof ls q l c = none) : inQ ls q l c = none := by unfold inQ; rw [h]; rfl
theorem arQ_none (h : pof ls q l c = none) : arQ ls q l c = none := by unfold arQ; rw [h]; rfl
theorem inQ_some {x : RN} (h : pof ls q l c = some x) : inQ ls q l c = some (x.1 + 1, x.2) := by unfold inQ; rw [h]; rfl
theorem arQ_some {x : RN} (h : pof ls q l c = some x) : arQ ls q l c = some (brd (lineAt ls l.toNat) x) := by unfold arQ; rw [h]; rfl
theorem brd_le {s : ByteArray} {x : RN} {n : Nat} (h : Pr s q s.size x) : (brd s x).1 ≤ x.1 ∧ x.2 < (brd s x).2 ∧ (brd s x).2 ≤ s.size ∧ (∀ j, (brd s x).1 ≤ j → j < x.1 → kl s true j = 0) ∧ (∀ j, x.2 < j → j < (brd s x).2 → kl s true j = 0) := by
  have h1 := h.lt
  have h2 := h.le
  have h3 := fb_all (s := s) (i := x.2 + 1) (by omega)
  have h4 := bb0_all (s := s) x.1
  unfold brd
  split
  · rename_i e
    exact ⟨h4.1, by simp, by simp only; omega, h4.2, fun j g1 g2 => by simp only at g2; omega⟩
  · refine ⟨Nat.le_refl _, by simp only; omega, h3.2.1, fun j g1 g2 => by simp only at g1; omega, fun j g1 g2 => h3.2.2 j (by omega) g2⟩
end
end Go.Proofs.Ytfcedllgidhnfaa.Wo
