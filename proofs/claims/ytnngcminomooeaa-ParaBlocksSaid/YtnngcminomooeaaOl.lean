/-
  A line's runs, as lists: no program in sight.
-/
import Derived.Test.YtnngcminomooeaaCl
set_option linter.unusedVariables false
set_option linter.unusedSimpArgs false
set_option maxRecDepth 100000
namespace Go.Proofs.Ytnngcminomooeaa.Wo
open Go Go.RowKit Go.Proofs.Ytnngcminomooeaa.Vk Go.Proofs.Ytnngcminomooeaa.Str Go.Proofs.Ytnngcminomooeaa.Ln Go.Proofs.Ytnngcminomooeaa.Cl

/-- A byte's class. -/
def kl (s : ByteArray) (big : Bool) (j : Nat) : Int := cls ((s.data.toList.getD j 0).toNat) big
theorem kl_at (s : ByteArray) (big : Bool) (j : Nat) (h : j < s.size) : cls ((s[j]'h).toNat) big = kl s big j := by
  unfold kl
  have : s.data.toList.getD j 0 = s[j]'h := by
    rw [List.getD_eq_getElem?_getD, List.getElem?_eq_getElem (by rw [size_str]; exact h)]; rfl
  rw [this]
theorem cls_z (c : Int) (b : Bool) : cls c b = 0 ↔ cls c true = 0 := by
  unfold cls; repeat' split
  all_goals simp_all
theorem kl_z (s : ByteArray) (b : Bool) (j : Nat) : kl s b j = 0 ↔ kl s true j = 0 := cls_z _ _

abbrev RN := Nat × Nat
/-- The runs of a line's first bytes. -/
def pr (s : ByteArray) (b : Bool) : Nat → List RN
  | 0 => []
  | i + 1 => if 0 < i ∧ kl s b i = kl s b (i - 1) then (pr s b i).dropLast ++ [(((pr s b i).getLastD (0, 0)).1, i + 1)] else pr s b i ++ [(i, i + 1)]
/-- A line's runs. -/
def rs (s : ByteArray) (b : Bool) : List RN := pr s b s.size
/-- A run begins here. -/
def Bd (s : ByteArray) (b : Bool) (f : Nat) : Prop := f = 0 ∨ kl s b f ≠ kl s b (f - 1)
section
variable {s : ByteArray} {b : Bool}
theorem pr_zero : pr s b 0 = [] := rfl
theorem pr_join {i : Nat} (h0 : 0 < i) (h : kl s b i = kl s b (i - 1)) : pr s b (i + 1) = (pr s b i).dropLast ++ [(((pr s b i).getLastD (0, 0)).1, i + 1)] := by
  rw [pr, if_pos ⟨h0, h⟩]
theorem pr_new {i : Nat} (h : Bd s b i) : pr s b (i + 1) = pr s b i ++ [(i, i + 1)] := by
  rw [pr, if_neg]
  rintro ⟨h0, h1⟩
  rcases h with h | h
  · omega
  · exact h h1
theorem pr_seg {f t : Nat} (hb : Bd s b f) (hk : ∀ j, f < j → j < t → kl s b j = kl s b f) : ∀ k, f < k → k ≤ t → pr s b k = pr s b f ++ [(f, k)] := by
  intro k
  induction k with
  | zero => intro h; omega
  | succ k ih =>
    intro h1 h2
    by_cases he : k = f
    · subst he; exact pr_new hb
    · have ih := ih (by omega) (by omega)
      have e : kl s b k = kl s b (k - 1) := by
        rw [hk k (by omega) (by omega)]
        by_cases h3 : k - 1 = f
        · rw [h3]
        · rw [hk (k - 1) (by omega) (by omega)]
      rw [pr_join (by omega) e, ih]
      simp
theorem pr_pos : ∀ {k : Nat}, 0 < k → pr s b k ≠ [] := by
  intro k h
  cases k with
  | zero => omega
  | succ k => rw [pr]; split <;> simp
theorem pr_pre {f : Nat} (hb : Bd s b f) : ∀ n, f ≤ n → ∃ r, pr s b n = pr s b f ++ r ∧ (f < n → r ≠ []) := by
  intro n
  induction n with
  | zero =>
    intro h
    obtain rfl : f = 0 := by omega
    exact ⟨[], by simp, fun h => by omega⟩
  | succ n ih =>
    intro h
    by_cases he : f = n + 1
    · subst he; exact ⟨[], by simp, fun h => by omega⟩
    obtain ⟨r, h1, h2⟩ := ih (by omega)
    by_cases hc : 0 < n ∧ kl s b n = kl s b (n - 1)
    · have hfn : f < n := by
        rcases Nat.lt_or_ge f n with h | h
        · exact h
        · obtain rfl : f = n := by omega
          rcases hb with hb | hb
          · omega
          · exact (hb hc.2).elim
      have hr := h2 hfn
      refine ⟨r.dropLast ++ [(((pr s b n).getLastD (0, 0)).1, n + 1)], ?_, fun _ => by simp⟩
      rw [pr_join hc.1 hc.2, h1, List.dropLast_append_of_ne_nil hr, ← h1]
      simp
    · refine ⟨r ++ [(n, n + 1)], ?_, fun _ => by simp⟩
      rw [pr, if_neg hc, h1]
      simp
/-- The run from a place on is the next one. -/
theorem rs_next {f t : Nat} (hb : Bd s b f) (hft : f < t) (ht : t ≤ s.size) (hk : ∀ j, f < j → j < t → kl s b j = kl s b f) (he : t = s.size ∨ kl s b t ≠ kl s b f) :
    pr s b t = pr s b f ++ [(f, t)] ∧ (t = s.size ∨ Bd s b t) ∧ ∃ r, rs s b = pr s b f ++ (f, t) :: r := by
  have h1 := pr_seg hb hk t hft (Nat.le_refl _)
  have h2 : t = s.size ∨ Bd s b t := by
    rcases he with he | he
    · exact .inl he
    · refine .inr (.inr ?_)
      by_cases h3 : t - 1 = f
      · rw [h3]; exact he
      · rw [hk (t - 1) (by omega) (by omega)]; exact he
  refine ⟨h1, h2, ?_⟩
  rcases h2 with h2 | h2
  · exact ⟨[], by rw [rs, ← h2, h1]⟩
  · obtain ⟨r, h3, _⟩ := pr_pre h2 s.size ht
    exact ⟨r, by rw [rs, h3, h1]; simp⟩

/-- What is true of a row of runs. -/
structure Rg (s : ByteArray) (b : Bool) (n : Nat) (l : List RN) : Prop where
  ne : ∀ k, (h : k < l.length) → l[k].1 < l[k].2
  zero : ∀ h : 0 < l.length, l[0].1 = 0
  next : ∀ k, (h : k + 1 < l.length) → l[k + 1].1 = l[k].2
  last : ∀ k, (h : k + 1 = l.length) → l[k].2 = n
  empty : l = [] → n = 0
  same : ∀ k, (h : k < l.length) → ∀ j, l[k].1 ≤ j → j < l[k].2 → kl s b j = kl s b l[k].1
  other : ∀ k, (h : k + 1 < l.length) → kl s b l[k + 1].1 ≠ kl s b l[k].1
theorem pr_rg : ∀ n, Rg s b n (pr s b n) := by
  intro n
  induction n with
  | zero => exact ⟨fun k h => by simp [pr] at h, fun h => by simp [pr] at h, fun k h => by simp [pr] at h, fun k h => by simp [pr] at h, fun _ => rfl, fun k h => by simp [pr] at h, fun k h => by simp [pr] at h⟩
  | succ n ih =>
    by_cases hc : 0 < n ∧ kl s b n = kl s b (n - 1)
    · have hne := pr_pos (s := s) (b := b) hc.1
      obtain ⟨l, hl⟩ : ∃ l, l = pr s b n := ⟨_, rfl⟩
      rw [pr_join hc.1 hc.2]
      rw [← hl] at ih hne ⊢
      have hlen : 0 < l.length := List.length_pos_iff.2 hne
      obtain ⟨m, hm⟩ : ∃ m, l.length = m + 1 := ⟨l.length - 1, by omega⟩
      have hd : l.dropLast.length = m := by simp; omega
      have hg : l.getLastD (0, 0) = l[m] := by
        have e : l.length - 1 = m := by omega
        rw [List.getLastD_eq_getLast?, List.getLast?_eq_getElem?, e, List.getElem?_eq_getElem (by omega)]; rfl
      have hL : (l.dropLast ++ [((l.getLastD (0, 0)).1, n + 1)]) = l.set m ((l[m]'(by omega)).1, n + 1) := by
        rw [hg]
        apply List.ext_getElem
        · simp; omega
        · intro i h1 h2
          rw [List.getElem_set, List.getElem_append]
          split
          · rename_i h3
            rw [if_neg (by omega)]
            rw [List.getElem_dropLast]
          · rename_i h3
            have : m = i := by simp at h1; omega
            rw [if_pos this]
            simp
      rw [hL]
      have hlast := ih.last m (by omega)
      have key : ∀ k, (h : k < l.length) → (l.set m ((l[m]'(by omega)).1, n + 1))[k]'(by simpa using h) = if m = k then ((l[m]'(by omega)).1, n + 1) else l[k] := fun k h => List.getElem_set _
      have fst : ∀ k, (h : k < l.length) → ((l.set m ((l[m]'(by omega)).1, n + 1))[k]'(by simpa using h)).1 = l[k].1 := fun k h => by
        rw [key k h]; split
        · rename_i e; subst e; rfl
        · rfl
      have snd : ∀ k, (h : k < l.length) → k ≠ m → ((l.set m ((l[m]'(by omega)).1, n + 1))[k]'(by simpa using h)).2 = l[k].2 := fun k h hk => by
        rw [key k h, if_neg (Ne.symm hk)]
      have sndm : ((l.set m ((l[m]'(by omega)).1, n + 1))[m]'(by simp; omega)).2 = n + 1 := by rw [key m (by omega), if_pos rfl]
      refine ⟨fun k h => ?_, fun h => ?_, fun k h => ?_, fun k h => ?_, fun h => ?_, fun k h j h1 h2 => ?_, fun k h => ?_⟩
      · have h' : k < l.length := by simpa using h
        rw [fst k h']
        by_cases hkm : k = m
        · subst hkm; rw [sndm]; have := ih.ne k h'; omega
        · rw [snd k h' hkm]; exact ih.ne k h'
      · rw [fst 0 hlen]; exact ih.zero hlen
      · have h' : k + 1 < l.length := by simpa using h
        rw [fst (k + 1) h', snd k (by omega) (by omega)]; exact ih.next k h'
      · have h' : k + 1 = l.length := by simpa using h
        obtain rfl : k = m := by omega
        exact sndm
      · have := congrArg List.length h; simp at this; subst this; simp at hne
      · have h' : k < l.length := by simpa using h
        rw [fst k h'] at h1 ⊢
        by_cases hkm : k = m
        · subst hkm
          rw [sndm] at h2
          by_cases hj : j = n
          · subst hj
            rw [hc.2]
            have := ih.ne k h'
            exact ih.same k h' (j - 1) (by omega) (by omega)
          · exact ih.same k h' j h1 (by omega)
        · rw [snd k h' hkm] at h2
          exact ih.same k h' j h1 h2
      · have h' : k + 1 < l.length := by simpa using h
        rw [fst (k + 1) h', fst k (by omega)]; exact ih.other k h'
    · rw [pr, if_neg hc]
      obtain ⟨l, hl⟩ : ∃ l, l = pr s b n := ⟨_, rfl⟩
      have hz : l = [] ↔ n = 0 := ⟨fun h => (hl ▸ ih).empty h, fun h => by subst h; rw [hl]; rfl⟩
      rw [← hl] at ih ⊢
      have old : ∀ k, (h : k < l.length) → (l ++ [(n, n + 1)])[k]'(by simp; omega) = l[k] := fun k h => List.getElem_append_left h
      have new : (l ++ [(n, n + 1)])[l.length]'(by simp) = (n, n + 1) := by simp
      have oldm : ∀ k, (h : k + 1 = l.length) → l[k].2 = n := fun k h => ih.last k h
      refine ⟨fun k h => ?_, fun h => ?_, fun k h => ?_, fun k h => ?_, fun h => ?_, fun k h j h1 h2 => ?_, fun k h => ?_⟩
      · by_cases hk : k < l.length
        · rw [old k hk]; exact ih.ne k hk
        · obtain rfl : k = l.length := by simp at h; omega
          rw [new]; simp
      · by_cases hk : 0 < l.length
        · rw [old 0 hk]; exact ih.zero hk
        · have h0 : l = [] := List.eq_nil_of_length_eq_zero (by omega)
          have := hz.1 h0
          subst this; subst h0; rfl
      · by_cases hk : k + 1 < l.length
        · rw [old (k + 1) hk, old k (by omega)]; exact ih.next k hk
        · obtain hk : k + 1 = l.length := by simp at h; omega
          rw [old k (by omega), oldm k hk]
          have : (l ++ [(n, n + 1)])[k + 1]'h = (n, n + 1) := by simp [hk]
          rw [this]
      · obtain rfl : k = l.length := by simp at h; omega
        rw [new]
      · simp at h
      · by_cases hk : k < l.length
        · rw [old k hk] at h1 h2 ⊢; exact ih.same k hk j h1 h2
        · obtain rfl : k = l.length := by simp at h; omega
          rw [new] at h1 h2 ⊢
          simp at h1 h2
          obtain rfl : j = n := by omega
          rfl
      · by_cases hk : k + 1 < l.length
        · rw [old (k + 1) hk, old k (by omega)]; exact ih.other k hk
        · obtain hk : k + 1 = l.length := by simp at h; omega
          rw [old k (by omega)]
          have : (l ++ [(n, n + 1)])[k + 1]'h = (n, n + 1) := by simp [hk]
          rw [this]
          have h3 := oldm k hk
          have h4 := ih.ne k (by omega)
          have h5 := ih.same k (by omega) (n - 1) (by omega) (by omega)
          have hn : n ≠ 0 := by omega
          rw [← h5]
          intro e
          exact hc ⟨by omega, e⟩
theorem rs_rg : Rg s b s.size (rs s b) := pr_rg _

variable {n : Nat} {l : List RN}
theorem Rg.lt (h : Rg s b n l) : ∀ j k, (hj : j < k) → (hk : k < l.length) → (l[j]'(by omega)).2 ≤ l[k].1 := by
  intro j k
  induction k with
  | zero => intro h; omega
  | succ k ih =>
    intro hj hk
    rw [h.next k hk]
    by_cases e : j = k
    · subst e; exact Nat.le_refl _
    · have := ih (by omega) (by omega)
      have := h.ne k (by omega)
      omega
theorem Rg.le (h : Rg s b n l) : ∀ k, (hk : k < l.length) → l[k].2 ≤ n := by
  intro k hk
  have h1 := h.last (l.length - 1) (by omega)
  by_cases e : k = l.length - 1
  · subst e; omega
  · have := h.lt k (l.length - 1) (by omega) (by omega)
    have := h.ne (l.length - 1) (by omega)
    omega
theorem Rg.len (h : Rg s b n l) : l.length ≤ n := by
  have key : ∀ k, (hk : k < l.length) → k < l[k].2 := by
    intro k
    induction k with
    | zero => intro hk; have := h.ne 0 hk; omega
    | succ k ih => intro hk; have := ih (by omega); have := h.next k hk; have := h.ne (k + 1) hk; omega
  by_cases h0 : l.length = 0
  · omega
  · have := key (l.length - 1) (by omega)
    have := h.le (l.length - 1) (by omega)
    omega
/-- The k-th run is the one that has column c. -/
structure At (l : List RN) (c k : Nat) : Prop where
  lt : k < l.length
  fst : l[k].1 ≤ c
  snd : c < l[k].2
  old : ∀ j, (h : j < k) → (l[j]'(by omega)).2 ≤ c
  new : ∀ j, k < j → (h : j < l.length) → c < (l[j]'h).1
theorem Rg.at (h : Rg s b n l) {c : Nat} (hc : c < n) : ∃ k, At l c k := by
  have key : ∀ m, (hm : m < l.length) → c < l[m].2 → ∃ k, ∃ hk : k < l.length, l[k].1 ≤ c ∧ c < l[k].2 := by
    intro m
    induction m with
    | zero => intro hm hx; exact ⟨0, hm, by rw [h.zero hm]; omega, hx⟩
    | succ m ih =>
      intro hm hx
      by_cases h1 : l[m + 1].1 ≤ c
      · exact ⟨m + 1, hm, h1, hx⟩
      · exact ih (by omega) (by rw [← h.next m hm]; omega)
  have h0 : 0 < l.length := by
    rcases Nat.eq_zero_or_pos l.length with e | e
    · have := h.empty (List.eq_nil_of_length_eq_zero e); omega
    · exact e
  obtain ⟨k, hk, h1, h2⟩ := key (l.length - 1) (by omega) (by rw [h.last (l.length - 1) (by omega)]; exact hc)
  refine ⟨k, hk, h1, h2, fun j hj => ?_, fun j hj hl => ?_⟩
  · have := h.lt j k hj hk; omega
  · have := h.lt k j hj hl; omega
/-- So many runs end at or ahead of a column. -/
def cn (c : Nat) (l : List RN) : Nat := l.countP fun x => decide (x.2 ≤ c)
theorem cn_nil {c : Nat} : cn c [] = 0 := rfl
theorem cn_add {c : Nat} (l : List RN) (x : RN) : cn c (l ++ [x]) = cn c l + if x.2 ≤ c then 1 else 0 := by
  unfold cn; rw [List.countP_append]; simp [List.countP_cons]
theorem cn_le {c : Nat} (l : List RN) : cn c l ≤ l.length := List.countP_le_length
theorem At.cn {c k : Nat} (h : At l c k) (hg : Rg s b n l) : cn c l = k := by
  have h1 : l = l.take k ++ l.drop k := (List.take_append_drop k l).symm
  unfold Wo.cn
  rw [h1, List.countP_append]
  have h2 : (l.take k).countP (fun x => decide (x.2 ≤ c)) = k := by
    have : (l.take k).countP (fun x => decide (x.2 ≤ c)) = (l.take k).length := by
      rw [List.countP_eq_length]
      intro x hx
      obtain ⟨j, hj, rfl⟩ := List.getElem_of_mem hx
      have hj' : j < k := by simp at hj; omega
      rw [List.getElem_take]
      exact decide_eq_true (h.old j hj')
    rw [this, List.length_take]; have := h.lt; omega
  have h3 : (l.drop k).countP (fun x => decide (x.2 ≤ c)) = 0 := by
    rw [List.countP_eq_zero]
    intro x hx
    obtain ⟨j, hj, rfl⟩ := List.getElem_of_mem hx
    rw [List.getElem_drop]
    have hj' : k + j < l.length := by simp at hj; omega
    have h4 := hg.ne (k + j) hj'
    by_cases e : j = 0
    · subst e
      have := h.snd
      simp only [Nat.add_zero, decide_eq_true_eq]
      omega
    · have := h.new (k + j) (by omega) hj'
      simp only [decide_eq_true_eq]
      omega
  omega
theorem At.uniq {c j k : Nat} (h : At l c j) (h' : At l c k) : j = k := by
  rcases Nat.lt_trichotomy j k with e | e | e
  · have := h'.old j e; have := h.snd; omega
  · exact e
  · have := h.old k e; have := h'.snd; omega

/-- Which runs are blanks. -/
def bk (s : ByteArray) (b : Bool) (x : RN) : Bool := decide (kl s b x.1 = 0)
def bb (s : ByteArray) (b : Bool) (l : List RN) (i : Nat) : Bool := (l[i]?.map (bk s b)).getD false
theorem bb_at {i : Nat} (h : i < l.length) : bb s b l i = bk s b l[i] := by unfold bb; rw [List.getElem?_eq_getElem h]; rfl
theorem bb_out {i : Nat} (h : l.length ≤ i) : bb s b l i = false := by unfold bb; rw [List.getElem?_eq_none h]; rfl
theorem Rg.alt (h : Rg s b n l) {i : Nat} (hi : bb s b l i = true) : bb s b l (i + 1) = false := by
  rcases Nat.lt_or_ge (i + 1) l.length with hl | hl
  · rw [bb_at hl]
    rw [bb_at (by omega)] at hi
    unfold bk at *
    rw [decide_eq_true_iff] at hi
    rw [decide_eq_false_iff_not]
    intro e
    exact h.other i hl (e.trans hi.symm)
  · exact bb_out hl
/-- Past blanks. -/
def pb (s : ByteArray) (b : Bool) (l : List RN) (i : Nat) : Nat := if bb s b l i = true then i + 1 else i
theorem pb_le {i : Nat} (h : i ≤ l.length) : pb s b l i ≤ l.length := by
  unfold pb; split
  · rename_i e
    rcases Nat.lt_or_ge i l.length with hl | hl
    · omega
    · rw [bb_out hl] at e; cases e
  · exact h
theorem pb_ge {i : Nat} : i ≤ pb s b l i ∧ pb s b l i ≤ i + 1 := by unfold pb; split <;> omega
/-- One group more. -/
def stp (s : ByteArray) (b : Bool) (l : List RN) (ah : Bool) (e : Nat) : Option Nat :=
  let e1 := if ah = true then pb s b l e else e
  if e1 = l.length then none else some (if ah = true then e1 + 1 else pb s b l (e1 + 1))
def gr (s : ByteArray) (b : Bool) (l : List RN) (ah : Bool) : Nat → Nat → Option Nat
  | 0, k => some k
  | j + 1, k => (gr s b l ah j k).bind (stp s b l ah)
theorem gr_zero {ah : Bool} {k : Nat} : gr s b l ah 0 k = some k := rfl
theorem gr_some {ah : Bool} {j k e : Nat} (h : gr s b l ah j k = some e) : gr s b l ah (j + 1) k = stp s b l ah e := by rw [gr, h]; rfl
theorem gr_none {ah : Bool} {j k : Nat} (h : gr s b l ah j k = none) : ∀ m, j ≤ m → gr s b l ah m k = none := by
  intro m
  induction m with
  | zero =>
    intro hm
    obtain rfl : j = 0 := by omega
    exact h
  | succ m ih =>
    intro hm
    by_cases e : j = m + 1
    · subst e; exact h
    · rw [gr, ih (by omega)]; rfl
theorem stp_le {ah : Bool} {e e' : Nat} (he : e ≤ l.length) (h : stp s b l ah e = some e') : e < e' ∧ e' ≤ l.length := by
  unfold stp at h
  cases ah
  · simp only [Bool.false_eq_true, if_false] at h
    split at h
    · cases h
    · injection h with h
      have h1 := pb_le (s := s) (b := b) (l := l) (i := e + 1) (by omega)
      have h2 := pb_ge (s := s) (b := b) (l := l) (i := e + 1)
      omega
  · simp only [if_true] at h
    have h1 := pb_le (s := s) (b := b) (l := l) (i := e) he
    have h2 := pb_ge (s := s) (b := b) (l := l) (i := e)
    split at h
    · cases h
    · injection h with h; omega
theorem gr_le {ah : Bool} {k : Nat} (hk : k ≤ l.length) : ∀ j e, gr s b l ah j k = some e → k + j ≤ e ∧ e ≤ l.length := by
  intro j
  induction j with
  | zero => intro e h; injection h with h; omega
  | succ j ih =>
    intro e h
    rw [gr] at h
    cases hg : gr s b l ah j k with
    | none => rw [hg] at h; cases h
    | some d =>
      rw [hg] at h
      have h1 := ih d hg
      have h2 := stp_le h1.2 h
      omega
/-- Groups that begin with words end with blanks or ahead of none. -/
theorem gr_word (hg : Rg s b n l) {k : Nat} (hk : bb s b l k = false) : ∀ j e, gr s b l false j k = some e → bb s b l e = false := by
  intro j
  induction j with
  | zero => intro e h; injection h with h; rw [← h]; exact hk
  | succ j ih =>
    intro e h
    rw [gr] at h
    cases hd : gr s b l false j k with
    | none => rw [hd] at h; cases h
    | some d =>
      rw [hd] at h
      simp only [Option.bind_some] at h
      unfold stp at h
      simp only [Bool.false_eq_true, if_false] at h
      split at h
      · cases h
      · injection h with h
        rw [← h]
        unfold pb
        split
        · rename_i e1; exact hg.alt e1
        · rename_i e1; simpa using e1
/-- Where an answer begins. -/
def frm (s : ByteArray) (b : Bool) (l : List RN) (k e : Nat) : Nat := if bb s b l (e - 1) = false ∧ 0 < k ∧ bb s b l (k - 1) = true then k - 1 else k
theorem frm_le {k e : Nat} : frm s b l k e ≤ k := by unfold frm; split <;> omega
theorem frm_blank (hg : Rg s b n l) {k e : Nat} (hk : bb s b l k = true) : frm s b l k e = k := by
  unfold frm
  rw [if_neg]
  rintro ⟨_, h1, h2⟩
  have := hg.alt h2
  rw [show k - 1 + 1 = k by omega, hk] at this
  cases this
/-- .. as the document has it: whether the last group took blanks. -/
theorem took (hg : Rg s b n l) {k j d : Nat} (hk : bb s b l k = false) (hd : gr s b l false j k = some d) (hl : d < l.length) :
    gr s b l false (j + 1) k = some (pb s b l (d + 1)) ∧ bb s b l (pb s b l (d + 1) - 1) = bb s b l (d + 1) := by
  have h1 : gr s b l false (j + 1) k = some (pb s b l (d + 1)) := by
    rw [gr_some hd]; unfold stp; simp only [Bool.false_eq_true, if_false]; rw [if_neg (by omega)]
  refine ⟨h1, ?_⟩
  have h2 := gr_word hg hk j d hd
  unfold pb
  split
  · rename_i e; rw [Nat.add_sub_cancel]
  · rename_i e
    rw [Nat.add_sub_cancel, h2]
    cases hx : bb s b l (d + 1) with
    | false => rfl
    | true => exact (e hx).elim
end
end Go.Proofs.Ytnngcminomooeaa.Wo
