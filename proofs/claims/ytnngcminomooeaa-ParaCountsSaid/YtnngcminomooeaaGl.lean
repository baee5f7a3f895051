/-
  Package para, told by lists: stops, where sentences begin; where paragraphs end; what its motions answer.
-/
import Derived.Test.YtnngcminomooeaaZl
set_option linter.unusedVariables false
set_option linter.unusedSimpArgs false
set_option maxRecDepth 100000
namespace Go.Proofs.Ytnngcminomooeaa.Pa
open Go Go.RowKit Go.Proofs.Ytnngcminomooeaa.Vk Go.Proofs.Ytnngcminomooeaa.Str Go.Proofs.Ytnngcminomooeaa.Ln Go.Proofs.Ytnngcminomooeaa.Cl Go.Proofs.Ytnngcminomooeaa.Mv Go.Proofs.Ytnngcminomooeaa.Wd

/-- A byte as a number. -/
def bt (s : ByteArray) (j : Nat) : Int := ((s.data.toList.getD j 0).toNat : Int)
theorem bt_at (s : ByteArray) (j : Nat) (h : j < s.size) : ((s[j]'h).toNat : Int) = bt s j := by
  unfold bt
  have : s.data.toList.getD j 0 = s[j]'h := by
    rw [List.getD_eq_getElem?_getD, List.getElem?_eq_getElem (by rw [size_str]; exact h)]; rfl
  rw [this]
/-- Is the byte a stop? -/
def stp (s : ByteArray) (j : Nat) : Bool := decide (bt s j = 46 ∨ bt s j = 33 ∨ bt s j = 63) && (decide (j + 1 = s.size) || decide (kl s true (j + 1) = 0))
/-- Is a beginning due at the next byte that is no blank? -/
def due (s : ByteArray) (d : Bool) : Nat → Bool
  | 0 => d
  | j + 1 => if kl s true j = 0 then due s d j else stp s j
theorem due_skip {s : ByteArray} {d : Bool} {j : Nat} (h : kl s true j = 0) : due s d (j + 1) = due s d j := if_pos h
theorem due_set {s : ByteArray} {d : Bool} {j : Nat} (h : kl s true j ≠ 0) : due s d (j + 1) = stp s j := if_neg h
theorem due_blank {s : ByteArray} {d : Bool} {j : Nat} (h : ∀ c, c < j → kl s true c = 0) : due s d j = d := by
  induction j with
  | zero => rfl
  | succ j ih => rw [due_skip (h j (by omega)), ih fun c hc => h c (by omega)]
theorem due_any {s : ByteArray} {d d' : Bool} {j : Nat} (h : ∃ c, c < j ∧ kl s true c ≠ 0) : due s d j = due s d' j := by
  induction j with
  | zero => obtain ⟨c, hc, _⟩ := h; omega
  | succ j ih =>
    by_cases hj : kl s true j = 0
    · rw [due_skip hj, due_skip hj]
      obtain ⟨c, hc, h2⟩ := h
      have : c ≠ j := fun e => h2 (by rw [e]; exact hj)
      exact ih ⟨c, by omega, h2⟩
    · rw [due_set hj, due_set hj]
/-- Does a sentence begin there? -/
def sb (d : Bool) (s : ByteArray) (c : Nat) : Bool := decide (kl s true c ≠ 0) && due s d c
theorem sb_blank {d : Bool} {s : ByteArray} {c : Nat} (h : kl s true c = 0) : sb d s c = false := by unfold sb; rw [h]; rfl
theorem sb_due {d : Bool} {s : ByteArray} {c : Nat} (h : kl s true c ≠ 0) : sb d s c = due s d c := by unfold sb; rw [decide_eq_true h]; rfl
/-- Does a line end with a stop? -/
def stopd (s : ByteArray) : Bool := due s false s.size
def fr (ls : List ByteArray) : Nat → Bool
  | 0 => true
  | i + 1 => decide ((lineAt ls i).size = 0) || stopd (lineAt ls i)
/-- Does a line begin one? -/
def op (ls : List ByteArray) (i : Nat) : Bool := if (lineAt ls i).size = 0 then decide (i = 0) || decide ((lineAt ls (i - 1)).size ≠ 0) else fr ls i
theorem op_full {ls : List ByteArray} {i : Nat} (h : 0 < (lineAt ls i).size) : op ls i = fr ls i := if_neg (by omega)
theorem op_empty {ls : List ByteArray} {i : Nat} (h : (lineAt ls i).size = 0) : op ls i = (decide (i = 0) || decide ((lineAt ls (i - 1)).size ≠ 0)) := if_pos h
theorem fr_empty {ls : List ByteArray} {i : Nat} (h : (lineAt ls i).size = 0) : fr ls (i + 1) = true := by
  show (decide _ || _) = true
  rw [decide_eq_true h]; rfl
theorem fr_full {ls : List ByteArray} {i : Nat} (h : 0 < (lineAt ls i).size) : fr ls (i + 1) = stopd (lineAt ls i) := by
  show (decide _ || _) = _
  rw [decide_eq_false (by omega)]; rfl
/-- The places of a line up to a column; of so many lines; of all. -/
def sln (ls : List ByteArray) (i j : Nat) : List P2 := lpt (op ls i) (sb (op ls i)) i (lineAt ls i) j
def sns (ls : List ByteArray) (k : Nat) : List P2 := (List.range k).flatMap fun i => sln ls i (lineAt ls i).size
def sen (ls : List ByteArray) : List P2 := sns ls ls.length

section
variable {ls : List ByteArray} {i n : Nat} {s : ByteArray} {d : Bool}
theorem sns_succ (i : Nat) : sns ls (i + 1) = sns ls i ++ sln ls i (lineAt ls i).size := by
  unfold sns; rw [List.range_succ, List.flatMap_append]; simp
theorem sns_next (hs : s = lineAt ls i) (hd : d = op ls i) : sns ls (i + 1) = sns ls i ++ lpt d (sb d) i s s.size := by
  rw [sns_succ, hs, hd]; rfl
theorem sns_cut (h : i < n) : ∃ r, sns ls n = sns ls i ++ sln ls i (lineAt ls i).size ++ r := by
  obtain ⟨e, rfl⟩ : ∃ e, n = i + 1 + e := ⟨n - (i + 1), by omega⟩
  refine ⟨(List.range e).flatMap fun k => sln ls (i + 1 + k) (lineAt ls (i + 1 + k)).size, ?_⟩
  rw [← sns_succ]
  unfold sns
  rw [List.range_add, List.flatMap_append, List.flatMap_map]
theorem sns_at {j : Nat} (hi : i < n) (hs : s = lineAt ls i) (hd : d = op ls i) (hj : j < s.size) (hp : sb d s j = true) : ∃ r, sns ls n = (sns ls i ++ lpt d (sb d) i s j) ++ (i, j) :: r := by
  obtain ⟨r, h⟩ := sns_cut (ls := ls) hi
  obtain ⟨q, h2⟩ := lpt_cut (e := d) (i := i) hj hp
  unfold sln at h
  rw [← hd, ← hs, h2] at h
  exact ⟨q ++ r, by rw [h]; simp⟩
theorem sns_empty (hi : i < n) (hs : s = lineAt ls i) (hd : true = op ls i) (h0 : s.size = 0) : ∃ r, sns ls n = sns ls i ++ (i, 0) :: r := by
  obtain ⟨r, h⟩ := sns_cut (ls := ls) hi
  unfold sln at h
  rw [← hd, ← hs, h0, lpt_empty h0] at h
  exact ⟨r, by rw [h]; simp⟩
theorem sns_mem {x : P2} (h : x ∈ sns ls n) : x.1 < n ∧ x.2 ≤ (lineAt ls x.1).size := by
  unfold sns at h
  obtain ⟨i, hi, hx⟩ := List.mem_flatMap.1 h
  obtain ⟨h1, h2⟩ := lpt_mem hx
  rw [← h1] at h2 hi
  refine ⟨List.mem_range.1 hi, ?_⟩
  rcases h2 with ⟨h2, _⟩ | ⟨_, h2, h3⟩
  · omega
  · omega
theorem sns_sorted (n : Nat) : (sns ls n).Pairwise fun a b => lp a b = true := by
  induction n with
  | zero => exact List.Pairwise.nil
  | succ n ih =>
    rw [sns_succ]
    refine List.pairwise_append.2 ⟨ih, lpt_sorted (Nat.le_refl _), ?_⟩
    intro a ha b hb
    have h1 := (sns_mem ha).1
    have h2 := (lpt_mem hb).1
    exact lp_iff.2 (.inl (by omega))
theorem sns_length (h : n ≤ ls.length) : (sns ls n).length ≤ tz (ls.take n) := by
  induction n with
  | zero => simp [sns]
  | succ n ih =>
    rw [sns_succ, List.length_append, tz_next ls n (by omega)]
    have h1 := ih (by omega)
    have h2 := lpt_length (e := op ls n) (pr := sb (op ls n)) (i := n) (s := lineAt ls n) (Nat.le_refl _)
    rw [show lpt (op ls n) (sb (op ls n)) n (lineAt ls n) (lineAt ls n).size = sln ls n (lineAt ls n).size from rfl] at h2
    rw [lineAt_get (show n < ls.length by omega)] at h2 ⊢
    omega
end
theorem sen_tz (ls : List ByteArray) : (sen ls).length ≤ tz ls := by
  have := sns_length (ls := ls) (n := ls.length) (Nat.le_refl _)
  rwa [List.take_length] at this
theorem sen_sorted (ls : List ByteArray) : (sen ls).Pairwise fun a b => lp a b = true := sns_sorted _
theorem sen_mem {ls : List ByteArray} {x : P2} (h : x ∈ sen ls) : x.1 < ls.length ∧ x.2 ≤ (lineAt ls x.1).size := sns_mem h

/-- An empty line behind one that isn't; ahead of one. -/
def pab (ls : List ByteArray) (i : Nat) : Bool := decide ((lineAt ls i).size = 0) && decide ((lineAt ls (i - 1)).size ≠ 0)
def paa (ls : List ByteArray) (i : Nat) : Bool := decide ((lineAt ls i).size = 0) && decide ((lineAt ls (i + 1)).size ≠ 0)
/-- The end of the text. -/
def lastP (ls : List ByteArray) (past : Bool) : P2 := (ls.length - 1, top (lineAt ls (ls.length - 1)) past)
/-- The next such line among f many from i on, or the end. -/
def dnf (ls : List ByteArray) (past : Bool) : Nat → Nat → P2
  | 0, _ => lastP ls past
  | f + 1, i => if pab ls i = true then (i, 0) else dnf ls past f (i + 1)
def dn (ls : List ByteArray) (past : Bool) (i : Nat) : P2 := dnf ls past (ls.length - i) i
theorem dn_end {ls : List ByteArray} {past : Bool} {i : Nat} (h : ls.length ≤ i) : dn ls past i = lastP ls past := by
  unfold dn; rw [show ls.length - i = 0 by omega]; rfl
theorem dn_yes {ls : List ByteArray} {past : Bool} {i : Nat} (h : i < ls.length) (hp : pab ls i = true) : dn ls past i = (i, 0) := by
  unfold dn
  obtain ⟨k, hk⟩ : ∃ k, ls.length - i = k + 1 := ⟨ls.length - i - 1, by omega⟩
  rw [hk]; exact if_pos hp
theorem dn_no {ls : List ByteArray} {past : Bool} {i : Nat} (h : i < ls.length) (hp : pab ls i = false) : dn ls past i = dn ls past (i + 1) := by
  unfold dn
  obtain ⟨k, hk⟩ : ∃ k, ls.length - i = k + 1 := ⟨ls.length - i - 1, by omega⟩
  rw [hk, show ls.length - (i + 1) = k by omega]
  exact if_neg (by rw [hp]; simp)
/-- The nearest such line among the first i, or the beginning. -/
def up (ls : List ByteArray) : Nat → P2
  | 0 => (0, 0)
  | i + 1 => if paa ls i = true then (i, 0) else up ls i
theorem up_yes {ls : List ByteArray} {i : Nat} (hp : paa ls i = true) : up ls (i + 1) = (i, 0) := if_pos hp
theorem up_no {ls : List ByteArray} {i : Nat} (hp : paa ls i = false) : up ls (i + 1) = up ls i := if_neg (by rw [hp]; simp)
theorem dnf_is {ls : List ByteArray} {past : Bool} (f i : Nat) (h : i + f = ls.length) : dnf ls past f i = lastP ls past ∨ ∃ k, i ≤ k ∧ k < ls.length ∧ dnf ls past f i = (k, 0) ∧ (lineAt ls k).size = 0 := by
  induction f generalizing i with
  | zero => exact .inl rfl
  | succ f ih =>
    by_cases hp : pab ls i = true
    · refine .inr ⟨i, Nat.le_refl _, by omega, if_pos hp, ?_⟩
      unfold pab at hp
      rw [Bool.and_eq_true, decide_eq_true_iff] at hp
      exact hp.1
    · have e : dnf ls past (f + 1) i = dnf ls past f (i + 1) := if_neg hp
      rw [e]
      rcases ih (i + 1) (by omega) with h1 | ⟨k, h1, h2, h3, h4⟩
      · exact .inl h1
      · exact .inr ⟨k, by omega, h2, h3, h4⟩
theorem dn_is {ls : List ByteArray} {past : Bool} {i : Nat} (h : i ≤ ls.length) : dn ls past i = lastP ls past ∨ ∃ k, i ≤ k ∧ k < ls.length ∧ dn ls past i = (k, 0) ∧ (lineAt ls k).size = 0 := dnf_is _ _ (by omega)
theorem up_is {ls : List ByteArray} (i : Nat) : up ls i = (0, 0) ∨ ∃ k, k < i ∧ up ls i = (k, 0) ∧ (lineAt ls k).size = 0 := by
  induction i with
  | zero => exact .inl rfl
  | succ i ih =>
    by_cases hp : paa ls i = true
    · refine .inr ⟨i, by omega, if_pos hp, ?_⟩
      unfold paa at hp
      rw [Bool.and_eq_true, decide_eq_true_iff] at hp
      exact hp.1
    · have e : up ls (i + 1) = up ls i := if_neg hp
      rw [e]
      rcases ih with h1 | ⟨k, h1, h2, h3⟩
      · exact .inl h1
      · exact .inr ⟨k, by omega, h2, h3⟩
/-- So many steps, each to a place that is further. -/
def itr (f : P2 → P2) (ok : P2 → P2 → Bool) : Nat → P2 → P2 × Bool
  | 0, p => (p, true)
  | k + 1, p => if ok p (f p) = true then itr f ok k (f p) else ((0, 0), false)
theorem itr_yes {f : P2 → P2} {ok : P2 → P2 → Bool} {k : Nat} {p t : P2} (ht : f p = t) (h : ok p t = true) : itr f ok (k + 1) p = itr f ok k t := by subst ht; exact if_pos h
theorem itr_no {f : P2 → P2} {ok : P2 → P2 → Bool} {k : Nat} {p t : P2} (ht : f p = t) (h : ok p t = false) : itr f ok (k + 1) p = ((0, 0), false) := by subst ht; exact if_neg (by rw [h]; simp)
theorem itr_end {f : P2 → P2} {ok : P2 → P2 → Bool} (I : P2 → Prop) (m : P2 → Nat) (hs : ∀ p, I p → ok p (f p) = true → I (f p) ∧ m (f p) < m p) (k : Nat) : ∀ p, I p → m p < k → itr f ok k p = ((0, 0), false) := by
  induction k with
  | zero => intro p _ h; omega
  | succ k ih =>
    intro p hp hk
    by_cases ho : ok p (f p) = true
    · obtain ⟨h1, h2⟩ := hs p hp ho
      rw [itr_yes rfl ho]
      exact ih _ h1 (by omega)
    · exact if_neg ho
theorem itr_cap {f : P2 → P2} {ok : P2 → P2 → Bool} (I : P2 → Prop) (m : P2 → Nat) (hs : ∀ p, I p → ok p (f p) = true → I (f p) ∧ m (f p) < m p) {p : P2} (hp : I p) (hm : m p < 1073741824) (k : Nat) : itr f ok (min k 1073741824) p = itr f ok k p := by
  by_cases hk : k ≤ 1073741824
  · rw [Nat.min_eq_left hk]
  · rw [Nat.min_eq_right (by omega), itr_end I m hs _ p hp hm, itr_end I m hs _ p hp (by omega)]
def nxf (ls : List ByteArray) (past : Bool) (p : P2) : P2 := dn ls past (p.1 + 1)
def bkf (ls : List ByteArray) (p : P2) : P2 := up ls p.1
def nxV (ls : List ByteArray) (past : Bool) (k : Nat) (p : P2) : P2 × Bool := itr (nxf ls past) lp k p
def bkV (ls : List ByteArray) (k : Nat) (p : P2) : P2 × Bool := itr (bkf ls) (fun p t => lp t p) k p
theorem nxV_cap {ls : List ByteArray} {past : Bool} {p : P2} (hp : p.1 < ls.length) (hn : ls.length ≤ 1000000) (k : Nat) : nxV ls past (min k 1073741824) p = nxV ls past k p := by
  refine itr_cap (fun p => p.1 < ls.length) (fun p => 2 * (ls.length - p.1) + if lp p (lastP ls past) = true then 1 else 0) ?_ hp ?_ k
  · intro p hp ho
    have hl := lp_iff.1 ho
    rcases dn_is (ls := ls) (past := past) (i := p.1 + 1) (by omega) with h1 | ⟨k, h1, h2, h3, h4⟩
    · have e : nxf ls past p = lastP ls past := h1
      rw [e] at ho hl ⊢
      refine ⟨by show ls.length - 1 < ls.length; omega, ?_⟩
      show 2 * (ls.length - (ls.length - 1)) + (if lp (lastP ls past) (lastP ls past) = true then 1 else 0) < 2 * (ls.length - p.1) + (if lp p (lastP ls past) = true then 1 else 0)
      rw [lp_irr, if_neg (by simp), if_pos ho]
      omega
    · have e : nxf ls past p = (k, 0) := h3
      rw [e]
      refine ⟨h2, ?_⟩
      show 2 * (ls.length - k) + (if lp (k, 0) (lastP ls past) = true then 1 else 0) < 2 * (ls.length - p.1) + (if lp p (lastP ls past) = true then 1 else 0)
      split <;> omega
  · show 2 * (ls.length - p.1) + (if lp p (lastP ls past) = true then 1 else 0) < 1073741824
    split <;> omega
theorem bkV_cap {ls : List ByteArray} {p : P2} (hp : p.1 < ls.length) (hn : ls.length ≤ 1000000) (k : Nat) : bkV ls (min k 1073741824) p = bkV ls k p := by
  refine itr_cap (fun p => p.1 < ls.length) (fun p => 2 * p.1 + if 0 < p.2 then 1 else 0) ?_ hp ?_ k
  · intro p hp ho
    have hl := lp_iff.1 ho
    rcases up_is (ls := ls) p.1 with h1 | ⟨k, h1, h2, h3⟩
    · have e : bkf ls p = (0, 0) := h1
      rw [e] at ho hl ⊢
      refine ⟨by show 0 < ls.length; omega, ?_⟩
      show 2 * 0 + (if 0 < 0 then 1 else 0) < 2 * p.1 + (if 0 < p.2 then 1 else 0)
      rw [if_neg (by omega)]
      simp only at hl
      split <;> omega
    · have e : bkf ls p = (k, 0) := h2
      rw [e]
      refine ⟨by show k < ls.length; omega, ?_⟩
      show 2 * k + (if 0 < 0 then 1 else 0) < 2 * p.1 + (if 0 < p.2 then 1 else 0)
      rw [if_neg (by omega)]
      split <;> omega
  · show 2 * p.1 + (if 0 < p.2 then 1 else 0) < 1073741824
    split <;> omega
/-- A jump there, or a motion that fails. -/
def jmp (t : P2 × Bool) : R := if t.2 = true then ⟨t.1.1, t.1.2, 0, true, -1, true⟩ else R.no
theorem jmp_no {t : P2} : jmp (t, false) = R.no := rfl
theorem jmp_yes {t : P2} : jmp (t, true) = ⟨t.1, t.2, 0, true, -1, true⟩ := rfl
/-- The k-th of the places behind, or the text's end as one more. -/
def snV (ls : List ByteArray) (past : Bool) (p : P2) (l : List P2) (k : Nat) : P2 × Bool :=
  if k ≤ l.length then (l.getD (k - 1) (0, 0), true) else if l.length + 1 = k ∧ past = true ∧ lp p (lastP ls true) = true then (lastP ls true, true) else ((0, 0), false)
def pnR (ls : List ByteArray) (l c n : Int) (past : Bool) : R := ifm ls l c n fun p k => jmp (nxV ls past k p)
def pbR (ls : List ByteArray) (l c n : Int) : R := ifm ls l c n fun p k => jmp (bkV ls k p)
def snR (ls : List ByteArray) (l c n : Int) (past : Bool) : R := ifm ls l c n fun p k => jmp (snV ls past p (aft (sen ls) p) k)
def sbR (ls : List ByteArray) (l c n : Int) : R := ifm ls l c n fun p k => jmp (nthV (bef (sen ls) p).reverse k)
end Go.Proofs.Ytnngcminomooeaa.Pa
