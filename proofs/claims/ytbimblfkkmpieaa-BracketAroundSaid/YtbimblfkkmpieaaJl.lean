/-
  Package pair, told by lists: brackets that wait, pairs, the bracket that belongs to one, the pairs round a place.
-/
import Derived.Test.YtbimblfkkmpieaaZl
import Derived.Test.YtbimblfkkmpieaaSm
set_option linter.unusedVariables false
set_option linter.unusedSimpArgs false
set_option maxRecDepth 100000
namespace Go.Proofs.Ytbimblfkkmpieaa.Pr
open Go Go.RowKit Go.Proofs.Ytbimblfkkmpieaa.Vk Go.Proofs.Ytbimblfkkmpieaa.Str Go.Proofs.Ytbimblfkkmpieaa.Ln Go.Proofs.Ytbimblfkkmpieaa.Cl Go.Proofs.Ytbimblfkkmpieaa.Mv Go.Proofs.Ytbimblfkkmpieaa.Wd

abbrev Cell : Type := So.Cell
abbrev PP : Type := P2 × P2
/-- The opening brackets that wait behind some bytes, the last one first. -/
def stk (o s : Nat) : List P2 → List Cell → List P2
  | st, [] => st
  | st, (p, b) :: r => if b.toNat = o then stk o s (p :: st) r else if b.toNat = s then stk o s st.tail r else stk o s st r
/-- The pairs, in the order of their ends. -/
def prs (o s : Nat) : List P2 → List Cell → List PP
  | _, [] => []
  | st, (p, b) :: r => if b.toNat = o then prs o s (p :: st) r else if b.toNat = s then (match st with | [] => prs o s [] r | q :: st' => (q, p) :: prs o s st' r) else prs o s st r
/-- Where so many brackets, opened by o, are shut by s. -/
def fw (o s : Nat) : Nat → List Cell → Option P2
  | _, [] => none
  | d, (p, b) :: r => if b.toNat = o then fw o s (d + 1) r else if b.toNat = s then (if d ≤ 1 then some p else fw o s (d - 1) r) else fw o s d r
def nz (o s : Nat) (z : Int) (b : UInt8) : Int := if b.toNat = o then z + 1 else if b.toNat = s then z - 1 else z
/-- The same, as the document reckons. -/
def fwI (o s : Nat) : Int → List Cell → Option P2
  | _, [] => none
  | z, (p, b) :: r => if nz o s z b = 0 then some p else fwI o s (nz o s z b) r
def ptn (p : P2) (l : List PP) : Option P2 := l.findSome? fun x => if x.1 = p then some x.2 else if x.2 = p then some x.1 else none

section
variable {o s : Nat}
theorem stk_append (A B : List Cell) : ∀ st, stk o s st (A ++ B) = stk o s (stk o s st A) B := by
  induction A with
  | nil => intro st; rfl
  | cons c r ih =>
    obtain ⟨p, b⟩ := c
    intro st
    simp only [List.cons_append, stk]
    split
    · exact ih _
    · split <;> exact ih _
theorem prs_append (A B : List Cell) : ∀ st, prs o s st (A ++ B) = prs o s st A ++ prs o s (stk o s st A) B := by
  induction A with
  | nil => intro st; rfl
  | cons c r ih =>
    obtain ⟨p, b⟩ := c
    intro st
    simp only [List.cons_append, stk, prs]
    split
    · exact ih _
    · split
      · cases st with
        | nil => exact ih _
        | cons q st' => simp only [List.tail_cons, List.cons_append]; rw [ih]
      · exact ih _
theorem stk_mem (A : List Cell) : ∀ st q, q ∈ stk o s st A → q ∈ st ∨ ∃ b : UInt8, b.toNat = o ∧ (q, b) ∈ A := by
  induction A with
  | nil => intro st q h; exact .inl h
  | cons c r ih =>
    obtain ⟨p, b⟩ := c
    intro st q h
    simp only [stk] at h
    split at h
    · rename_i hb
      rcases ih _ _ h with h | ⟨b', h1, h2⟩
      · rcases List.mem_cons.1 h with rfl | h
        · exact .inr ⟨b, hb, List.mem_cons_self⟩
        · exact .inl h
      · exact .inr ⟨b', h1, List.mem_cons_of_mem _ h2⟩
    · split at h
      · rcases ih _ _ h with h | ⟨b', h1, h2⟩
        · exact .inl (List.mem_of_mem_tail h)
        · exact .inr ⟨b', h1, List.mem_cons_of_mem _ h2⟩
      · rcases ih _ _ h with h | ⟨b', h1, h2⟩
        · exact .inl h
        · exact .inr ⟨b', h1, List.mem_cons_of_mem _ h2⟩
/-- Behind one more byte. -/
theorem snoc_open {pre : List Cell} {p : P2} {b : UInt8} (h : b.toNat = o) : prs o s [] (pre ++ [(p, b)]) = prs o s [] pre ∧ stk o s [] (pre ++ [(p, b)]) = p :: stk o s [] pre := by
  rw [prs_append, stk_append]
  simp [prs, stk, h]
theorem snoc_other {pre : List Cell} {p : P2} {b : UInt8} (h : b.toNat ≠ o) (h2 : b.toNat ≠ s) : prs o s [] (pre ++ [(p, b)]) = prs o s [] pre ∧ stk o s [] (pre ++ [(p, b)]) = stk o s [] pre := by
  rw [prs_append, stk_append]
  simp [prs, stk, h, h2]
theorem snoc_none {pre : List Cell} {p : P2} {b : UInt8} (h : b.toNat ≠ o) (h2 : b.toNat = s) (he : stk o s [] pre = []) : prs o s [] (pre ++ [(p, b)]) = prs o s [] pre ∧ stk o s [] (pre ++ [(p, b)]) = [] := by
  rw [prs_append, stk_append, he]
  have : ¬ s = o := by omega
  simp [prs, stk, h2, this]
theorem snoc_pair {pre : List Cell} {p q : P2} {st : List P2} {b : UInt8} (h : b.toNat ≠ o) (h2 : b.toNat = s) (he : stk o s [] pre = q :: st) : prs o s [] (pre ++ [(p, b)]) = prs o s [] pre ++ [(q, p)] ∧ stk o s [] (pre ++ [(p, b)]) = st := by
  rw [prs_append, stk_append, he]
  have : ¬ s = o := by omega
  simp [prs, stk, h2, this]
theorem all_pair {xs pre rest : List Cell} {p q : P2} {st : List P2} {b : UInt8} (hx : xs = pre ++ (p, b) :: rest) (h : b.toNat ≠ o) (h2 : b.toNat = s) (he : stk o s [] pre = q :: st) : ∃ r, prs o s [] xs = prs o s [] pre ++ (q, p) :: r := by
  have hp := (snoc_pair (pre := pre) (p := p) h h2 he).1
  refine ⟨prs o s (stk o s [] (pre ++ [(p, b)])) rest, ?_⟩
  rw [hx, show pre ++ (p, b) :: rest = (pre ++ [(p, b)]) ++ rest by simp, prs_append, hp]
  simp
theorem stk_length (A : List Cell) : ∀ st, (stk o s st A).length ≤ st.length + A.length := by
  induction A with
  | nil => intro st; simp [stk]
  | cons c r ih =>
    obtain ⟨p, b⟩ := c
    intro st
    simp only [stk]
    split
    · have := ih (p :: st); simp only [List.length_cons] at this ⊢; omega
    · split
      · have := ih st.tail; simp only [List.length_cons, List.length_tail] at this ⊢; omega
      · have := ih st; simp only [List.length_cons] at this ⊢; omega

theorem nz_o {z : Int} {b : UInt8} (h : b.toNat = o) : nz o s z b = z + 1 := if_pos h
theorem nz_s {z : Int} {b : UInt8} (h : ¬ b.toNat = o) (h2 : b.toNat = s) : nz o s z b = z - 1 := by unfold nz; rw [if_neg h, if_pos h2]
theorem nz_n {z : Int} {b : UInt8} (h : ¬ b.toNat = o) (h2 : ¬ b.toNat = s) : nz o s z b = z := by unfold nz; rw [if_neg h, if_neg h2]
theorem fwI_at {z z' : Int} {p : P2} {b : UInt8} {r : List Cell} (h : nz o s z b = z') : fwI o s z ((p, b) :: r) = if z' = 0 then some p else fwI o s z' r := by subst h; rfl
theorem fwI_pos : ∀ (L : List Cell) (d : Nat), 1 ≤ d → fwI o s d L = fw o s d L
  | [], _, _ => rfl
  | (p, b) :: r, d, hd => by
    simp only [fw]
    by_cases h1 : b.toNat = o
    · rw [fwI_at (nz_o h1), if_pos h1, if_neg (by omega)]
      exact fwI_pos r (d + 1) (by omega)
    · rw [if_neg h1]
      by_cases h2 : b.toNat = s
      · rw [fwI_at (nz_s h1 h2), if_pos h2]
        by_cases h3 : d ≤ 1
        · rw [if_pos h3, if_pos (by omega)]
        · rw [if_neg h3, if_neg (by omega), show (d : Int) - 1 = ((d - 1 : Nat) : Int) by omega]
          exact fwI_pos r (d - 1) (by omega)
      · rw [fwI_at (nz_n h1 h2), if_neg h2, if_neg (by omega)]
        exact fwI_pos r d hd
theorem fwI_neg (hne : o ≠ s) : ∀ (L : List Cell) (d : Nat), 1 ≤ d → fwI o s (-(d : Int)) L = fw s o d L
  | [], _, _ => rfl
  | (p, b) :: r, d, hd => by
    simp only [fw]
    by_cases h1 : b.toNat = s
    · have h0 : ¬ b.toNat = o := by omega
      rw [fwI_at (nz_s h0 h1), if_pos h1, if_neg (by omega), show -(d : Int) - 1 = -((d + 1 : Nat) : Int) by omega]
      exact fwI_neg hne r (d + 1) (by omega)
    · rw [if_neg h1]
      by_cases h2 : b.toNat = o
      · rw [fwI_at (nz_o h2), if_pos h2]
        by_cases h3 : d ≤ 1
        · rw [if_pos h3, if_pos (by omega)]
        · rw [if_neg h3, if_neg (by omega), show -(d : Int) + 1 = -((d - 1 : Nat) : Int) by omega]
          exact fwI_neg hne r (d - 1) (by omega)
      · rw [fwI_at (nz_n h2 h1), if_neg h2, if_neg (by omega)]
        exact fwI_neg hne r d hd

theorem ptn_cons (p : P2) (x : PP) (l : List PP) : ptn p (x :: l) = if x.1 = p then some x.2 else if x.2 = p then some x.1 else ptn p l := by
  unfold ptn
  rw [List.findSome?_cons]
  by_cases h1 : x.1 = p
  · simp [h1]
  · by_cases h2 : x.2 = p
    · simp [h1, h2]
    · simp [h1, h2]
theorem ptn_append (p : P2) (l m : List PP) (h : ptn p l = none) : ptn p (l ++ m) = ptn p m := by
  unfold ptn at h ⊢
  rw [List.findSome?_append, h]; rfl
theorem ptn_none (p : P2) (A : List Cell) : ∀ st, (∀ q ∈ st, q ≠ p) → (∀ c ∈ A, c.1 ≠ p) → ptn p (prs o s st A) = none := by
  induction A with
  | nil => intro st _ _; rfl
  | cons c r ih =>
    obtain ⟨q, b⟩ := c
    intro st h1 h2
    have h3 : ∀ c ∈ r, c.1 ≠ p := fun c hc => h2 c (List.mem_cons_of_mem _ hc)
    have hq : q ≠ p := h2 (q, b) List.mem_cons_self
    simp only [prs]
    split
    · exact ih _ (fun x hx => by rcases List.mem_cons.1 hx with rfl | hx; exact hq; exact h1 x hx) h3
    · split
      · cases st with
        | nil => exact ih _ h1 h3
        | cons t st' =>
          rw [ptn_cons, if_neg (h1 t List.mem_cons_self), if_neg hq]
          exact ih _ (fun x hx => h1 x (List.mem_cons_of_mem _ hx)) h3
      · exact ih _ h1 h3
theorem ptn_top (p : P2) (A : List Cell) (bel : List P2) : ∀ top : List P2, (∀ q ∈ top, q ≠ p) → (∀ c ∈ A, c.1 ≠ p) → ptn p (prs o s (top ++ p :: bel) A) = fw o s (top.length + 1) A := by
  induction A with
  | nil => intro top _ _; rfl
  | cons c r ih =>
    obtain ⟨q, b⟩ := c
    intro top h1 h2
    have h3 : ∀ c ∈ r, c.1 ≠ p := fun c hc => h2 c (List.mem_cons_of_mem _ hc)
    have hq : q ≠ p := h2 (q, b) List.mem_cons_self
    simp only [prs, fw]
    split
    · exact ih (q :: top) (fun x hx => by rcases List.mem_cons.1 hx with rfl | hx; exact hq; exact h1 x hx) h3
    · split
      · cases top with
        | nil =>
          simp only [List.nil_append, List.length_nil, Nat.zero_add, Nat.le_refl, if_true]
          rw [ptn_cons, if_pos rfl]
        | cons t top' =>
          simp only [List.cons_append]
          rw [ptn_cons, if_neg (h1 t List.mem_cons_self), if_neg hq, if_neg (by simp)]
          exact ih top' (fun x hx => h1 x (List.mem_cons_of_mem _ hx)) h3
      · exact ih _ h1 h3

/-- Some bytes stand in order. -/
def Srt (C : List Cell) : Prop := C.Pairwise fun a b => lp a.1 b.1 = true
theorem lp_ne {a b : P2} (h : lp a b = true) : a ≠ b := by
  rintro rfl
  rw [lp_irr] at h; cases h
theorem Srt.cut {A B : List Cell} {p : P2} {b : UInt8} (h : Srt (A ++ (p, b) :: B)) : (∀ c ∈ A, c.1 ≠ p) ∧ (∀ c ∈ B, c.1 ≠ p) ∧ (∀ c ∈ A, lp c.1 p = true) ∧ (∀ c ∈ B, lp p c.1 = true) ∧ Srt A ∧ Srt B := by
  obtain ⟨h1, h2, h3⟩ := List.pairwise_append.1 h
  obtain ⟨h4, h5⟩ := List.pairwise_cons.1 h2
  exact ⟨fun c hc => lp_ne (h3 c hc (p, b) List.mem_cons_self), fun c hc => (lp_ne (h4 c hc)).symm, fun c hc => h3 c hc (p, b) List.mem_cons_self, h4, h1, h5⟩

theorem ptn_fwd {A B : List Cell} {p : P2} {b : UInt8} (h : Srt (A ++ (p, b) :: B)) (hb : b.toNat = o) : ptn p (prs o s [] (A ++ (p, b) :: B)) = fw o s 1 B := by
  obtain ⟨h1, h2, _⟩ := h.cut
  rw [prs_append, ptn_append _ _ _ (ptn_none p A [] (by simp) h1)]
  simp only [prs, if_pos hb]
  exact ptn_top p B (stk o s [] A) [] (by simp) h2
theorem fw_back (hne : o ≠ s) : ∀ (L : List Cell) (d : Nat), fw s o (d + 1) L = (stk o s [] L.reverse)[d]?
  | [], d => by simp [fw, stk]
  | (p, b) :: r, d => by
    simp only [fw]
    rw [List.reverse_cons, stk_append]
    simp only [stk]
    by_cases h1 : b.toNat = s
    · have h0 : ¬ b.toNat = o := by omega
      rw [if_pos h1, if_neg h0, if_pos h1, fw_back hne r (d + 1)]
      cases stk o s [] r.reverse <;> simp
    · rw [if_neg h1, if_neg h1]
      by_cases h2 : b.toNat = o
      · rw [if_pos h2, if_pos h2]
        cases d with
        | zero => simp
        | succ d =>
          rw [if_neg (by omega), show d + 1 + 1 - 1 = d + 1 by omega, fw_back hne r d]
          simp
      · rw [if_neg h2, if_neg h2]
        exact fw_back hne r d
theorem ptn_bwd (hne : o ≠ s) {A B : List Cell} {p : P2} {b : UInt8} (h : Srt (A ++ (p, b) :: B)) (hb : b.toNat = s) : ptn p (prs o s [] (A ++ (p, b) :: B)) = fw s o 1 A.reverse := by
  obtain ⟨h1, h2, _⟩ := h.cut
  have h0 : ¬ b.toNat = o := by omega
  have hf := fw_back hne A.reverse 0
  rw [List.reverse_reverse] at hf
  rw [prs_append, ptn_append _ _ _ (ptn_none p A [] (by simp) h1), hf]
  simp only [prs, if_neg h0, if_pos hb]
  cases hs : stk o s [] A with
  | nil => simpa using ptn_none p B [] (by simp) h2
  | cons q st =>
    have hq : q ≠ p := by
      rcases stk_mem (o := o) (s := s) A [] q (by rw [hs]; exact List.mem_cons_self) with hm | ⟨b', _, hm⟩
      · cases hm
      · exact h1 _ hm
    simp only [ptn_cons]
    rw [if_neg hq, if_pos trivial]
    rfl

/-- How two pairs lie to one another: apart, or the first one within the second. -/
def Rel (x y : PP) : Prop := lp x.2 y.2 = true ∧ (lp y.1 x.1 = true ∨ lp x.2 y.1 = true)
theorem prs_mem (A : List Cell) : ∀ st, Srt A → (∀ q ∈ st, ∀ c ∈ A, lp q c.1 = true) → ∀ x ∈ prs o s st A, lp x.1 x.2 = true ∧ (x.1 ∈ st ∨ ∃ b : UInt8, b.toNat = o ∧ (x.1, b) ∈ A) ∧ ∃ b : UInt8, b.toNat = s ∧ (x.2, b) ∈ A := by
  induction A with
  | nil => intro st _ _ x hx; cases hx
  | cons c r ih =>
    obtain ⟨q, b⟩ := c
    intro st hs hst x hx
    obtain ⟨hq, hsr⟩ := List.pairwise_cons.1 hs
    have hst' : ∀ q ∈ st, ∀ c ∈ r, lp q c.1 = true := fun q hq c hc => hst q hq c (List.mem_cons_of_mem _ hc)
    simp only [prs] at hx
    have up : ∀ (t : Nat) (y : P2), (∃ b : UInt8, b.toNat = t ∧ (y, b) ∈ r) → ∃ b' : UInt8, b'.toNat = t ∧ (y, b') ∈ (q, b) :: r := fun t y ⟨b', h1, h2⟩ => ⟨b', h1, List.mem_cons_of_mem _ h2⟩
    split at hx
    · rename_i hb
      obtain ⟨h1, h2, h3⟩ := ih (q :: st) hsr (fun y hy c hc => by
        rcases List.mem_cons.1 hy with rfl | hy
        · exact hq c hc
        · exact hst' y hy c hc) x hx
      refine ⟨h1, ?_, up _ _ h3⟩
      rcases h2 with h2 | h2
      · rcases List.mem_cons.1 h2 with h2 | h2
        · exact .inr ⟨b, hb, by rw [h2]; exact List.mem_cons_self⟩
        · exact .inl h2
      · exact .inr (up _ _ h2)
    · split at hx
      · rename_i hb
        cases st with
        | nil =>
          obtain ⟨h1, h2, h3⟩ := ih [] hsr hst' x hx
          exact ⟨h1, h2.imp id (up _ _), up _ _ h3⟩
        | cons t st' =>
          rcases List.mem_cons.1 hx with rfl | hx
          · exact ⟨hst t List.mem_cons_self (q, b) List.mem_cons_self, .inl List.mem_cons_self, b, hb, List.mem_cons_self⟩
          · obtain ⟨h1, h2, h3⟩ := ih st' hsr (fun y hy c hc => hst' y (List.mem_cons_of_mem _ hy) c hc) x hx
            exact ⟨h1, h2.imp (List.mem_cons_of_mem _) (up _ _), up _ _ h3⟩
      · obtain ⟨h1, h2, h3⟩ := ih st hsr hst' x hx
        exact ⟨h1, h2.imp id (up _ _), up _ _ h3⟩
theorem prs_rel (A : List Cell) : ∀ st, Srt A → (st.Pairwise fun a b => lp b a = true) → (∀ q ∈ st, ∀ c ∈ A, lp q c.1 = true) → (prs o s st A).Pairwise Rel := by
  induction A with
  | nil => intro st _ _ _; exact List.Pairwise.nil
  | cons c r ih =>
    obtain ⟨q, b⟩ := c
    intro st hs hd hst
    obtain ⟨hq, hsr⟩ := List.pairwise_cons.1 hs
    have hst' : ∀ q ∈ st, ∀ c ∈ r, lp q c.1 = true := fun q hq c hc => hst q hq c (List.mem_cons_of_mem _ hc)
    simp only [prs]
    split
    · exact ih (q :: st) hsr (List.pairwise_cons.2 ⟨fun y hy => hst y hy (q, b) List.mem_cons_self, hd⟩) (fun y hy c hc => by
        rcases List.mem_cons.1 hy with rfl | hy
        · exact hq c hc
        · exact hst' y hy c hc)
    · split
      · cases st with
        | nil => exact ih [] hsr hd hst'
        | cons t st' =>
          obtain ⟨hd1, hd2⟩ := List.pairwise_cons.1 hd
          have hst2 : ∀ y ∈ st', ∀ c ∈ r, lp y c.1 = true := fun y hy c hc => hst' y (List.mem_cons_of_mem _ hy) c hc
          refine List.pairwise_cons.2 ⟨fun y hy => ?_, ih st' hsr hd2 hst2⟩
          obtain ⟨h1, h2, b3, _, h3⟩ := prs_mem r st' hsr hst2 y hy
          refine ⟨hq _ h3, ?_⟩
          rcases h2 with h2 | ⟨b2, _, h2⟩
          · exact .inl (hd1 _ h2)
          · exact .inr (hq _ h2)
      · exact ih st hsr hd hst'
theorem ptn_one {l : List PP} (hr : l.Pairwise Rel) (hl : ∀ y ∈ l, lp y.1 y.2 = true) {x : PP} (hx : x ∈ l) : ptn x.1 l = some x.2 ∧ ptn x.2 l = some x.1 := by
  induction l with
  | nil => cases hx
  | cons y l ih =>
    obtain ⟨h1, h2⟩ := List.pairwise_cons.1 hr
    rw [ptn_cons, ptn_cons]
    rcases List.mem_cons.1 hx with rfl | hx
    · have := lp_ne (hl x List.mem_cons_self)
      rw [if_pos rfl, if_neg this, if_pos rfl]
      exact ⟨rfl, rfl⟩
    · obtain ⟨h3, h4⟩ := h1 x hx
      have hy := hl y List.mem_cons_self
      have a1 : y.1 ≠ x.1 := by
        rcases h4 with h4 | h4
        · exact (lp_ne h4).symm
        · exact lp_ne (lp_trans _ _ _ hy h4)
      have a2 : y.2 ≠ x.1 := by
        rcases h4 with h4 | h4
        · exact (lp_ne (lp_trans _ _ _ h4 hy)).symm
        · exact lp_ne h4
      have a3 : y.1 ≠ x.2 := lp_ne (lp_trans _ _ _ hy h3)
      rw [if_neg a1, if_neg a2, if_neg a3, if_neg (lp_ne h3)]
      exact ih h2 (fun z hz => hl z (List.mem_cons_of_mem _ hz)) hx
theorem ptn_some {l : List PP} {p q : P2} (h : ptn p l = some q) : (p, q) ∈ l ∨ (q, p) ∈ l := by
  induction l with
  | nil => cases h
  | cons y l ih =>
    rw [ptn_cons] at h
    split at h
    · rename_i h1
      injection h with h
      left
      rw [← h1, ← h]
      exact List.mem_cons_self
    · split at h
      · rename_i h1
        injection h with h
        right
        rw [← h1, ← h]
        exact List.mem_cons_self
      · exact (ih h).imp (List.mem_cons_of_mem _) (List.mem_cons_of_mem _)
/-- A bracket's bracket's bracket is itself. -/
theorem ptn_back {C : List Cell} (h : Srt C) {p q : P2} (hp : ptn p (prs o s [] C) = some q) : ptn q (prs o s [] C) = some p ∧ q ≠ p ∧ ∃ b : UInt8, (b.toNat = o ∨ b.toNat = s) ∧ (q, b) ∈ C := by
  have hm := prs_mem (o := o) (s := s) C [] h (by simp)
  have hr := prs_rel (o := o) (s := s) C [] h List.Pairwise.nil (by simp)
  have hl := fun y hy => (hm y hy).1
  rcases ptn_some hp with hx | hx
  · obtain ⟨h1, _, b, hb, hc⟩ := hm _ hx
    exact ⟨(ptn_one hr hl hx).2, (lp_ne h1).symm, b, .inr hb, hc⟩
  · obtain ⟨h1, h2, _⟩ := hm _ hx
    refine ⟨(ptn_one hr hl hx).1, lp_ne h1, ?_⟩
    rcases h2 with h2 | ⟨b, hb, hc⟩
    · cases h2
    · exact ⟨b, .inl hb, hc⟩

/-- The pairs round a place. -/
def eb (p : P2) (x : PP) : Bool := !lp p x.1 && !lp x.2 p
def enc (p : P2) (l : List PP) : List PP := l.filter (eb p)
/-- What the document counts, bracket by bracket. -/
def dcf (o : Nat) (p : P2) (P : List PP) (c : Cell) : Option PP :=
  if c.2.toNat = o ∧ lp p c.1 = false then (match ptn c.1 P with | some m => if lp m p = true then none else some (c.1, m) | none => none) else none
def dnc (o : Nat) (p : P2) (P : List PP) (L : List Cell) : List PP := L.filterMap (dcf o p P)
theorem eq_sorted {α : Type} {r : α → α → Prop} (ha : ∀ a b, r a b → r b a → False) : ∀ {l m : List α}, l.Pairwise r → m.Pairwise r → (∀ x, x ∈ l ↔ x ∈ m) → l = m
  | [], [], _, _, _ => rfl
  | [], b :: m, _, _, h => by have := (h b).2 List.mem_cons_self; cases this
  | a :: l, [], _, _, h => by have := (h a).1 List.mem_cons_self; cases this
  | a :: l, b :: m, hl, hm, h => by
    obtain ⟨h1, h2⟩ := List.pairwise_cons.1 hl
    obtain ⟨h3, h4⟩ := List.pairwise_cons.1 hm
    have hab : a = b := by
      rcases List.mem_cons.1 ((h a).1 List.mem_cons_self) with e | e
      · exact e
      · rcases List.mem_cons.1 ((h b).2 List.mem_cons_self) with e2 | e2
        · exact e2.symm
        · exact (ha a b (h1 b e2) (h3 a e)).elim
    subst hab
    rw [eq_sorted ha h2 h4 fun x => ⟨fun hx => ?_, fun hx => ?_⟩]
    · rcases List.mem_cons.1 ((h x).1 (List.mem_cons_of_mem _ hx)) with e | e
      · subst e; exact (ha x x (h1 x hx) (h1 x hx)).elim
      · exact e
    · rcases List.mem_cons.1 ((h x).2 (List.mem_cons_of_mem _ hx)) with e | e
      · subst e; exact (ha x x (h3 x hx) (h3 x hx)).elim
      · exact e
theorem lp_asym {a b : P2} (h : lp a b = true) (k : lp b a = true) : False := by
  have := lp_trans _ _ _ h k
  rw [lp_irr] at this; cases this
theorem lp_tri {a b : P2} (h : lp a b = false) (k : lp b a = false) : a = b := by
  have h1 := lp_false.1 h
  have h2 := lp_false.1 k
  obtain ⟨x, y⟩ := a
  obtain ⟨z, u⟩ := b
  simp only at h1 h2
  ext <;> simp only <;> omega
theorem dcf_some {P : List PP} {p : P2} {c : Cell} {x : PP} (h : dcf o p P c = some x) : c.2.toNat = o ∧ lp p c.1 = false ∧ x.1 = c.1 ∧ ptn c.1 P = some x.2 ∧ lp x.2 p = false := by
  unfold dcf at h
  split at h
  · rename_i h1
    split at h
    · rename_i m hm
      split at h
      · cases h
      · rename_i h2
        injection h with h
        subst h
        exact ⟨h1.1, h1.2, rfl, hm, by simpa using h2⟩
    · cases h
  · cases h
theorem enc_dnc (hne : o ≠ s) {C : List Cell} (h : Srt C) (p : P2) : enc p (prs o s [] C) = dnc o p (prs o s [] C) C.reverse := by
  have hm := prs_mem (o := o) (s := s) C [] h (by simp)
  have hr := prs_rel (o := o) (s := s) C [] h List.Pairwise.nil (by simp)
  have hl := fun y hy => (hm y hy).1
  refine eq_sorted (r := fun x y : PP => lp y.1 x.1 = true) (fun a b h1 h2 => lp_asym h1 h2) ?_ ?_ ?_
  · unfold enc
    have hf := List.Pairwise.filter (eb p) hr
    refine (List.Pairwise.imp_of_mem ?_ hf)
    intro x y hx hy hxy
    obtain ⟨_, hx2⟩ := List.mem_filter.1 hx
    obtain ⟨_, hy2⟩ := List.mem_filter.1 hy
    unfold eb at hx2 hy2
    simp only [Bool.and_eq_true, Bool.not_eq_true'] at hx2 hy2
    rcases hxy.2 with h1 | h1
    · exact h1
    · exfalso
      have e1 := lp_iff.1 h1
      have e2 := lp_false.1 hx2.2
      have e3 := lp_false.1 hy2.1
      omega
  · unfold dnc
    rw [List.pairwise_filterMap]
    have : C.reverse.Pairwise fun a b => lp b.1 a.1 = true := List.pairwise_reverse.2 h
    refine this.imp ?_
    intro a b hab x hx y hy
    have h1 := (dcf_some hx).2.2.1
    have h2 := (dcf_some hy).2.2.1
    rw [h1, h2]; exact hab
  · intro x
    unfold enc dnc
    rw [List.mem_filter, List.mem_filterMap]
    constructor
    · rintro ⟨hx, he⟩
      unfold eb at he
      simp only [Bool.and_eq_true, Bool.not_eq_true'] at he
      obtain ⟨h1, h2, _⟩ := hm x hx
      rcases h2 with h2 | ⟨b, hb, hc⟩
      · cases h2
      · refine ⟨(x.1, b), List.mem_reverse.2 hc, ?_⟩
        unfold dcf
        rw [if_pos ⟨hb, he.1⟩]
        simp only [(ptn_one hr hl hx).1]
        rw [if_neg (by rw [he.2]; simp)]
    · rintro ⟨⟨q, b⟩, hc, hd⟩
      obtain ⟨h1, h2, h3, h4, h5⟩ := dcf_some hd
      simp only at h1 h2 h3 h4
      have hcm := List.mem_reverse.1 hc
      have hx : x ∈ prs o s [] C := by
        rcases ptn_some h4 with e | e
        · rw [← h3] at e; exact e
        · exfalso
          obtain ⟨_, _, b', hb', hc'⟩ := hm _ e
          -- the same place, two bytes
          have : ∀ {l : List Cell}, Srt l → (q, b) ∈ l → (q, b') ∈ l → b = b' := by
            intro l hl2 m1 m2
            induction l with
            | nil => cases m1
            | cons z l ih =>
              obtain ⟨g1, g2⟩ := List.pairwise_cons.1 hl2
              rcases List.mem_cons.1 m1 with e1 | e1
              · rcases List.mem_cons.1 m2 with e2 | e2
                · rw [← e1] at e2; injection e2 with _ e2; exact e2.symm
                · have := g1 _ e2; rw [← e1] at this; exact ((lp_ne this) rfl).elim
              · rcases List.mem_cons.1 m2 with e2 | e2
                · have := g1 _ e1; rw [← e2] at this; exact ((lp_ne this) rfl).elim
                · exact ih g2 e1 e2
          have := this h hcm hc'
          subst this
          omega
      refine ⟨hx, ?_⟩
      unfold eb
      rw [h3, h2, h5]; rfl
end

/-- Brackets. -/
def kO (b : Nat) : Nat := if b = 40 ∨ b = 41 then 40 else if b = 91 ∨ b = 93 then 91 else if b = 123 ∨ b = 125 then 123 else 0
def kS (b : Nat) : Nat := if b = 40 ∨ b = 41 then 41 else if b = 91 ∨ b = 93 then 93 else if b = 123 ∨ b = 125 then 125 else 0
def kB (b : Nat) : Bool := decide (b = 40 ∨ b = 91 ∨ b = 123)
def kI (b : Nat) : Bool := decide (b = 40 ∨ b = 41 ∨ b = 91 ∨ b = 93 ∨ b = 123 ∨ b = 125)
theorem kI_facts {b : Nat} (h : kI b = true) : kO b ≠ kS b ∧ (b = kO b ∧ kB b = true ∨ b = kS b ∧ kB b = false) ∧ kO b < 256 ∧ kS b < 256 ∧ kI (kO b) = true ∧ kI (kS b) = true ∧ kO (kO b) = kO b ∧ kS (kO b) = kS b ∧ kO (kS b) = kO b ∧ kS (kS b) = kS b := by
  unfold kI at h
  have h := of_decide_eq_true h
  rcases h with rfl | rfl | rfl | rfl | rfl | rfl <;> decide
theorem kB_facts {b : Nat} (h : kB b = true) : kI b = true ∧ kO b = b := by
  unfold kB at h
  have h := of_decide_eq_true h
  rcases h with rfl | rfl | rfl <;> decide
end Go.Proofs.Ytbimblfkkmpieaa.Pr
