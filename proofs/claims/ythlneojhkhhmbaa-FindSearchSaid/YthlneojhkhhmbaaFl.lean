/-
  Package find, told by lists: where a pattern occurs; which occurrence a search answers; the word at or behind a column.
-/
import Derived.Test.YthlneojhkhhmbaaZl
set_option linter.unusedVariables false
set_option linter.unusedSimpArgs false
set_option maxRecDepth 100000
namespace Go.Proofs.Ythlneojhkhhmbaa.Fd
open Go Go.RowKit Go.Proofs.Ythlneojhkhhmbaa.Vk Go.Proofs.Ythlneojhkhhmbaa.Str Go.Proofs.Ythlneojhkhhmbaa.Ln Go.Proofs.Ythlneojhkhhmbaa.Cl Go.Proofs.Ythlneojhkhhmbaa.Mv Go.Proofs.Ythlneojhkhhmbaa.Wd

/-- A pattern stands at a column. -/
def occ (pt s : ByteArray) (q : Nat) : Bool := decide (0 < pt.size ∧ q + pt.size ≤ s.size) && ((s.extract q (q + pt.size)).toList == pt.toList)
/-- All places of a pattern. -/
def pls (pt : ByteArray) (ls : List ByteArray) : List P2 := mks false (occ pt) ls ls.length
theorem occ_out {pt s : ByteArray} {q : Nat} (h : s.size < q + pt.size) : occ pt s q = false := by
  unfold occ; rw [decide_eq_false (by omega)]; rfl
theorem occ_in {pt s : ByteArray} {q : Nat} (h0 : 0 < pt.size) (h : q + pt.size ≤ s.size) : occ pt s q = ((s.extract q (q + pt.size)).toList == pt.toList) := by
  unfold occ; rw [decide_eq_true ⟨h0, h⟩]; rfl
theorem occ_iff {pt s : ByteArray} {q : Nat} : occ pt s q = true ↔ 0 < pt.size ∧ q + pt.size ≤ s.size ∧ s.extract q (q + pt.size) = pt := by
  unfold occ
  rw [Bool.and_eq_true, decide_eq_true_iff, beq_iff_eq]
  constructor
  · rintro ⟨⟨h1, h2⟩, h3⟩; exact ⟨h1, h2, str_inj h3⟩
  · rintro ⟨h1, h2, h3⟩; exact ⟨⟨h1, h2⟩, by rw [h3]⟩
theorem pls_none {pt : ByteArray} {ls : List ByteArray} (h : pt.size = 0) : pls pt ls = [] := by
  apply List.eq_nil_iff_forall_not_mem.2
  intro x hx
  rcases (mks_mem hx).2 with ⟨_, h2⟩ | ⟨h2, _⟩
  · have := (occ_iff.1 h2).1; omega
  · cases h2
theorem pls_tz (pt : ByteArray) (ls : List ByteArray) : (pls pt ls).length ≤ tz ls := mks_tz _ _ _
theorem pls_sorted (pt : ByteArray) (ls : List ByteArray) : (pls pt ls).Pairwise fun a b => lp a b = true := mks_sorted _
theorem pls_mem {pt : ByteArray} {ls : List ByteArray} {x : P2} (h : x ∈ pls pt ls) : x.1 < ls.length ∧ x.2 < (lineAt ls x.1).size ∧ occ pt (lineAt ls x.1) x.2 = true := by
  obtain ⟨h1, h2⟩ := mks_mem h
  rcases h2 with ⟨h2, h3⟩ | ⟨h2, _⟩
  · exact ⟨h1, h2, h3⟩
  · cases h2
theorem mem_pls {pt : ByteArray} {ls : List ByteArray} {x : P2} (h1 : x.1 < ls.length) (h : occ pt (lineAt ls x.1) x.2 = true) : x ∈ pls pt ls :=
  mem_mks h1 (.inl ⟨by have := occ_iff.1 h; omega, h⟩)
/-- Behind its last column a pattern has no places. -/
theorem lpt_far {pt s : ByteArray} {i q : Nat} (d : Nat) (h : s.size < q + pt.size) : lpt false (occ pt) i s (q + d) = lpt false (occ pt) i s q := by
  induction d with
  | zero => rfl
  | succ d ih => rw [← Nat.add_assoc, lpt_no (occ_out (by omega)), ih]
theorem lpt_rest {pt s : ByteArray} {i q : Nat} (hq : q ≤ s.size) (h : s.size < q + pt.size) : lpt false (occ pt) i s s.size = lpt false (occ pt) i s q := by
  have := lpt_far (i := i) (s.size - q) h
  rwa [show q + (s.size - q) = s.size by omega] at this

/-- A sorted list, cut where a condition ends. -/
theorem part {P : P2 → Bool} (hd : ∀ a b, lp a b = true → P b = true → P a = true) : ∀ {l : List P2}, (l.Pairwise fun a b => lp a b = true) → l = l.filter P ++ l.filter fun q => !P q
  | [], _ => rfl
  | a :: l, hs => by
    obtain ⟨h1, h2⟩ := List.pairwise_cons.1 hs
    cases ha : P a
    · have h3 : ∀ b ∈ l, P b = false := fun b hb => by
        cases hPb : P b
        · rfl
        · rw [hd a b (h1 b hb) hPb] at ha; cases ha
      have h4 : l.filter P = [] := List.filter_eq_nil_iff.2 (fun b hb => by rw [h3 b hb]; simp)
      have h5 : (l.filter fun q => !P q) = l := List.filter_eq_self.2 (fun b hb => by rw [h3 b hb]; rfl)
      rw [List.filter_cons_of_neg (by simp [ha]), List.filter_cons_of_pos (by simp [ha]), h4, h5]; rfl
    · have ih := part hd h2
      rw [List.filter_cons_of_pos ha, List.filter_cons_of_neg (by simp [ha]), List.cons_append, ← ih]
/-- Not after a place. -/
def naf (l : List P2) (p : P2) : List P2 := l.filter fun q => !lp p q
theorem part_naf {l : List P2} (hs : l.Pairwise fun a b => lp a b = true) (p : P2) : l = naf l p ++ aft l p := by
  have := part (P := fun q => !lp p q) (fun a b h1 h2 => by
    rw [Bool.not_eq_true'] at h2 ⊢
    rw [lp_false] at h2 ⊢; rw [lp_iff] at h1; omega) hs
  simp only [Bool.not_not] at this
  exact this
theorem part_bef {l : List P2} (hs : l.Pairwise fun a b => lp a b = true) (p : P2) : l = bef l p ++ atf l p :=
  part (P := fun q => lp q p) (fun a b h1 h2 => by rw [lp_iff] at *; omega) hs

/-- What the package counts; the round as the document has it; the place's number. -/
def cnd (p : P2) (back : Bool) (q : P2) : Bool := if back = true then lp q p else !lp p q
def fr0 (l : List P2) (p : P2) (back : Bool) : Nat := (l.filter (cnd p back)).length
def rnd (l : List P2) (p : P2) (back : Bool) : List P2 := if back = true then (bef l p).reverse ++ (atf l p).reverse else aft l p ++ naf l p
def trn (f size n : Nat) (back : Bool) : Nat := if back = true then (f + size - 1 - (n - 1) % size) % size else (f + (n - 1) % size) % size
theorem fr0_le (l : List P2) (p : P2) (back : Bool) : fr0 l p back ≤ l.length := List.length_filter_le _ _
theorem rnd_length (l : List P2) (hs : l.Pairwise fun a b => lp a b = true) (p : P2) (back : Bool) : (rnd l p back).length = l.length := by
  unfold rnd
  split
  · conv => rhs; rw [part_bef hs p]
    simp
  · conv => rhs; rw [part_naf hs p]
    simp; omega
theorem trn_lt {f size n : Nat} {back : Bool} (h : 0 < size) : trn f size n back < size := by
  unfold trn; split <;> exact Nat.mod_lt _ h
theorem rnd_at {l : List P2} (hs : l.Pairwise fun a b => lp a b = true) (p : P2) (back : Bool) (n : Nat) (h : 0 < l.length) : (rnd l p back).getD ((n - 1) % l.length) (0, 0) = l.getD (trn (fr0 l p back) l.length n back) (0, 0) := by
  have hk := Nat.mod_lt (n - 1) h
  obtain ⟨k, hkk⟩ : ∃ k, k = (n - 1) % l.length := ⟨_, rfl⟩
  unfold trn
  rw [← hkk] at hk ⊢
  cases back
  · rw [if_neg (by simp)]
    have hf : fr0 l p false = (naf l p).length := rfl
    have hl := congrArg List.length (part_naf hs p)
    rw [List.length_append] at hl
    rw [List.getD_eq_getElem?_getD, List.getD_eq_getElem?_getD, hf]
    unfold rnd
    rw [if_neg (by simp)]
    congr 1
    conv => rhs; lhs; rw [part_naf hs p]
    by_cases hka : k < (aft l p).length
    · rw [List.getElem?_append_left hka, Nat.mod_eq_of_lt (by omega), List.getElem?_append_right (by omega)]
      congr 1; omega
    · rw [List.getElem?_append_right (by omega), Nat.mod_eq_sub_mod (by omega), Nat.mod_eq_of_lt (by omega), List.getElem?_append_left (by omega)]
      congr 1; omega
  · rw [if_pos rfl]
    have hf : fr0 l p true = (bef l p).length := rfl
    have hl := congrArg List.length (part_bef hs p)
    rw [List.length_append] at hl
    rw [List.getD_eq_getElem?_getD, List.getD_eq_getElem?_getD, hf]
    unfold rnd
    rw [if_pos rfl]
    congr 1
    conv => rhs; lhs; rw [part_bef hs p]
    by_cases hka : k < (bef l p).length
    · rw [List.getElem?_append_left (by simpa using hka), List.getElem?_reverse hka, Nat.mod_eq_sub_mod (by omega), Nat.mod_eq_of_lt (by omega), List.getElem?_append_left (by omega)]
      congr 1; omega
    · rw [List.getElem?_append_right (by simpa using hka), List.length_reverse, List.getElem?_reverse (by omega), Nat.mod_eq_of_lt (by omega), List.getElem?_append_right (by omega)]
      congr 1; omega

/-- What a jump answers. -/
def jmp (t : P2 × Bool) : R := if t.2 = true then ⟨t.1.1, t.1.2, 0, true, -1, true⟩ else R.no
theorem jmp_no {t : P2} : jmp (t, false) = R.no := rfl
theorem jmp_yes {t : P2} : jmp (t, true) = ⟨t.1, t.2, 0, true, -1, true⟩ := rfl
/-- The n-th of a list in rounds. -/
def srL (l : List P2) (p : P2) (back : Bool) (k : Nat) : P2 × Bool := if l.length = 0 then ((0, 0), false) else (l.getD (trn (fr0 l p back) l.length (min k 1073741824) back) (0, 0), true)
theorem srL_no {l : List P2} {p : P2} {back : Bool} {k : Nat} (h : l.length = 0) : srL l p back k = ((0, 0), false) := if_pos h
theorem srL_yes {l : List P2} {p : P2} {back : Bool} {k : Nat} (h : 0 < l.length) : srL l p back k = (l.getD (trn (fr0 l p back) l.length (min k 1073741824) back) (0, 0), true) := if_neg (by omega)
/-- Search's answer. -/
def srR (pt : ByteArray) (ls : List ByteArray) (l c n : Int) (back : Bool) : R := ifm ls l c n fun p k => jmp (srL (pls pt ls) p back k)

/-- A place of the list: how many are not after it, how many before it. -/
theorem fr0_at {l : List P2} (hs : l.Pairwise fun a b => lp a b = true) {k : Nat} (hk : k < l.length) : fr0 l (l.getD k (0, 0)) false = k + 1 ∧ fr0 l (l.getD k (0, 0)) true = k := by
  have hg : l.getD k (0, 0) = l[k] := by rw [List.getD_eq_getElem?_getD, List.getElem?_eq_getElem hk]; rfl
  rw [hg]
  obtain ⟨x, hx⟩ : ∃ x, x = l[k] := ⟨_, rfl⟩
  rw [← hx]
  have hcut : l = l.take k ++ x :: l.drop (k + 1) := by rw [hx, ← List.drop_eq_getElem_cons hk, List.take_append_drop]
  have hp := hs
  rw [hcut] at hp
  obtain ⟨_, h2, h3⟩ := List.pairwise_append.1 hp
  have h4 := (List.pairwise_cons.1 h2).1
  have hl : (l.take k).length = k := by rw [List.length_take]; omega
  have e1 : ∀ q ∈ l.take k, lp q x = true := fun q hq => h3 q hq x (by simp)
  have e2 : ∀ q ∈ l.drop (k + 1), lp x q = true := h4
  constructor
  · unfold fr0
    conv => lhs; rw [hcut]
    rw [List.filter_append, List.filter_eq_self.2 (fun q hq => by
      have := lp_iff.1 (e1 q hq)
      show (!lp x q) = true
      rw [Bool.not_eq_true', lp_false]; omega), List.filter_cons_of_pos (by show (!lp x x) = true; rw [lp_irr]; rfl), List.filter_eq_nil_iff.2 (fun q hq => by
      show ¬ (!lp x q) = true
      rw [e2 q hq]; simp), List.length_append, hl]
    rfl
  · unfold fr0
    conv => lhs; rw [hcut]
    rw [List.filter_append, List.filter_eq_self.2 (fun q hq => show cnd x true q = true from e1 q hq), List.filter_cons_of_neg (by show ¬ lp x x = true; rw [lp_irr]; simp), List.filter_eq_nil_iff.2 (fun q hq => by
      have := lp_iff.1 (e2 q hq)
      show ¬ lp q x = true
      rw [lp_iff]; omega), List.length_append, hl]
    rfl

/-- A letter of a word; the next place that keeps a condition; where a run begins. -/
def ltr (s : ByteArray) (j : Nat) : Bool := decide (kl s false j = 1)
def fwdGo (f : Nat → Bool) (n : Nat) : Nat → Nat → Nat
  | 0, j => j
  | d + 1, j => if j < n ∧ f j = false then fwdGo f n d (j + 1) else j
def fwd (f : Nat → Bool) (n j : Nat) : Nat := fwdGo f n (n - j) j
theorem fwd_no {f : Nat → Bool} {n j : Nat} (h : j < n) (hf : f j = false) : fwd f n j = fwd f n (j + 1) := by
  unfold fwd
  rw [show n - j = (n - (j + 1)) + 1 by omega, fwdGo, if_pos ⟨h, hf⟩]
theorem fwd_yes {f : Nat → Bool} {n j : Nat} (hf : f j = true) : fwd f n j = j := by
  unfold fwd
  cases n - j with
  | zero => rfl
  | succ d => rw [fwdGo, if_neg (by simp [hf])]
theorem fwd_end {f : Nat → Bool} {n j : Nat} (h : n ≤ j) : fwd f n j = j := by
  unfold fwd
  rw [show n - j = 0 by omega]
  rfl
theorem fwd_ge (f : Nat → Bool) (n : Nat) : ∀ d j : Nat, n - j ≤ d → j ≤ fwd f n j ∧ (j ≤ n → fwd f n j ≤ n) ∧ (fwd f n j < n → f (fwd f n j) = true) ∧ ∀ i, j ≤ i → i < fwd f n j → f i = false
  | 0, j, h => by
    rw [fwd_end (by omega)]
    exact ⟨Nat.le_refl _, fun h => h, fun h2 => by omega, fun i h1 h2 => by omega⟩
  | d + 1, j, h => by
    by_cases hj : j < n
    · cases hf : f j
      · rw [fwd_no hj hf]
        obtain ⟨h1, h2, h3, h4⟩ := fwd_ge f n d (j + 1) (by omega)
        refine ⟨by omega, fun _ => h2 (by omega), h3, fun i hi hi2 => ?_⟩
        by_cases e : i = j
        · rw [e]; exact hf
        · exact h4 i (by omega) hi2
      · rw [fwd_yes hf]
        exact ⟨Nat.le_refl _, fun h => h, fun _ => hf, fun i h1 h2 => by omega⟩
    · rw [fwd_end (by omega)]
      exact ⟨Nat.le_refl _, fun h => h, fun h2 => by omega, fun i h1 h2 => by omega⟩
def bwd (f : Nat → Bool) : Nat → Nat
  | 0 => 0
  | j + 1 => if f j = true then bwd f j else j + 1
theorem bwd_yes {f : Nat → Bool} {j : Nat} (h : f j = true) : bwd f (j + 1) = bwd f j := by rw [bwd, if_pos h]
theorem bwd_no {f : Nat → Bool} {j : Nat} (h : f j = false) : bwd f (j + 1) = j + 1 := by rw [bwd, if_neg (by simp [h])]
theorem bwd_le (f : Nat → Bool) : ∀ j, bwd f j ≤ j ∧ (0 < bwd f j → f (bwd f j - 1) = false) ∧ ∀ i, bwd f j ≤ i → i < j → f i = true
  | 0 => ⟨Nat.le_refl _, fun h => absurd h (Nat.lt_irrefl _), fun i h1 h2 => by omega⟩
  | j + 1 => by
    cases hf : f j
    · rw [bwd_no hf]
      exact ⟨Nat.le_refl _, fun _ => hf, fun i h1 h2 => by omega⟩
    · rw [bwd_yes hf]
      obtain ⟨h1, h2, h3⟩ := bwd_le f j
      refine ⟨by omega, h2, fun i hi hi2 => ?_⟩
      by_cases e : i = j
      · rw [e]; exact hf
      · exact h3 i hi (by omega)
/-- The first letter at or behind a column; where its word begins, where it ends. -/
def wF (s : ByteArray) (c : Nat) : Nat := fwd (ltr s) s.size c
def wB (s : ByteArray) (c : Nat) : Nat := bwd (ltr s) (wF s c)
def wE (s : ByteArray) (c : Nat) : Nat := fwd (fun j => !ltr s j) s.size (wF s c)
theorem wF_le {s : ByteArray} {c : Nat} (h : c ≤ s.size) : c ≤ wF s c ∧ wF s c ≤ s.size := by
  obtain ⟨h1, h2, _, _⟩ := fwd_ge (ltr s) s.size _ c (Nat.le_refl _)
  exact ⟨h1, h2 h⟩
theorem wB_le (s : ByteArray) (c : Nat) : wB s c ≤ wF s c := (bwd_le _ _).1
theorem wE_le {s : ByteArray} {c : Nat} (h : c ≤ s.size) : wF s c ≤ wE s c ∧ wE s c ≤ s.size := by
  obtain ⟨h1, h2, _, _⟩ := fwd_ge (fun j => !ltr s j) s.size _ (wF s c) (Nat.le_refl _)
  exact ⟨h1, h2 (wF_le h).2⟩
/-- From any letter of a run on the run's end is the same. -/
theorem fwd_run {f : Nat → Bool} {n : Nat} : ∀ (d j : Nat), j + d ≤ n → (∀ i, j ≤ i → i < j + d → f i = false) → fwd f n j = fwd f n (j + d)
  | 0, j, _, _ => rfl
  | d + 1, j, h, hf => by
    rw [fwd_no (by omega) (hf j (Nat.le_refl _) (by omega)), fwd_run d (j + 1) (by omega) (fun i h1 h2 => hf i (by omega) (by omega)), Nat.add_assoc, Nat.add_comm 1 d]
theorem wE_from {s : ByteArray} {c : Nat} (h : c ≤ s.size) : fwd (fun j => !ltr s j) s.size (wB s c) = wE s c := by
  have hb := wB_le s c
  have hf := wF_le h
  have := fwd_run (f := fun j => !ltr s j) (n := s.size) (wF s c - wB s c) (wB s c) (by omega) (fun i h1 h2 => by
    show (!ltr s i) = false
    rw [(bwd_le (ltr s) (wF s c)).2.2 i h1 (by omega)]; rfl)
  rw [show wB s c + (wF s c - wB s c) = wF s c by omega] at this
  exact this
end Go.Proofs.Ythlneojhkhhmbaa.Fd
