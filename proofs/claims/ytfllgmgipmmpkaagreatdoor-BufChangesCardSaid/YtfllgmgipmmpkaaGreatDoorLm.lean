/-
  Where the lines of a text begin, as lists: no program in sight.
-/
import Derived.Test.YtfllgmgipmmpkaaGreatDoorKit
set_option linter.unusedVariables false
set_option linter.unusedSimpArgs false
set_option maxRecDepth 100000
namespace Go.Proofs.YtfllgmgipmmpkaaGreatDoor.Lm

/-- Where lines begin behind the line feeds of t, t itself beginning at k. -/
def bg : Nat → List UInt8 → List Nat
  | _, [] => []
  | k, c :: cs => if c = 10 then (k + 1) :: bg (k + 1) cs else bg (k + 1) cs

/-- Where the lines of t begin. -/
def st (t : List UInt8) : List Nat := 0 :: bg 0 t

theorem bg_append (a b : List UInt8) : ∀ k, bg k (a ++ b) = bg k a ++ bg (k + a.length) b := by
  induction a with
  | nil => intro k; simp [bg]
  | cons c cs ih =>
    intro k
    simp only [List.cons_append, bg, List.length_cons]
    rw [ih, show k + 1 + cs.length = k + (cs.length + 1) by omega]
    split <;> simp

theorem bg_shift (t : List UInt8) : ∀ k j, bg (k + j) t = (bg k t).map (· + j) := by
  induction t with
  | nil => intro k j; simp [bg]
  | cons c cs ih =>
    intro k j
    simp only [bg]
    rw [show k + j + 1 = (k + 1) + j by omega, ih]
    split <;> simp

theorem bg_gt {t : List UInt8} : ∀ {k x : Nat}, x ∈ bg k t → k < x ∧ x ≤ k + t.length := by
  induction t with
  | nil => intro k x h; simp [bg] at h
  | cons c cs ih =>
    intro k x h
    simp only [bg] at h
    simp only [List.length_cons]
    split at h
    · rcases List.mem_cons.1 h with rfl | h
      · omega
      · have := ih h; omega
    · have := ih h; omega

theorem bg_length (t : List UInt8) : ∀ k, (bg k t).length = t.count 10 := by
  induction t with
  | nil => intro k; simp [bg]
  | cons c cs ih =>
    intro k
    simp only [bg]
    rw [List.count_cons]
    split
    · next h => subst h; simp [ih]
    · next h => simp [ih, h]

theorem bg_le_length (t : List UInt8) (k : Nat) : (bg k t).length ≤ t.length := by rw [bg_length]; exact List.count_le_length

theorem st_length (t : List UInt8) : (st t).length = t.count 10 + 1 := by simp [st, bg_length]
theorem st_length_le (t : List UInt8) : (st t).length ≤ t.length + 1 := by have := bg_le_length t 0; simp [st]; omega
theorem st_pos (t : List UInt8) : 0 < (st t).length := by simp [st]

theorem st_append (a b : List UInt8) : st (a ++ b) = st a ++ bg a.length b := by simp [st, bg_append]

theorem st_cut (t : List UInt8) (k : Nat) (hk : k ≤ t.length) : st t = st (t.take k) ++ bg k (t.drop k) := by
  have := st_append (t.take k) (t.drop k)
  rw [List.take_append_drop, List.length_take, Nat.min_eq_left hk] at this
  exact this

/-- The line of a place, and where it begins. -/
def ln (t : List UInt8) (i : Nat) : Nat := (t.take i).count 10
def at0 (t : List UInt8) (k : Nat) : Nat := (st t).getD k 0

theorem ln_lt (t : List UInt8) (i : Nat) : ln t i < (st t).length := by
  rw [st_length, ln]
  have : (t.take i).count 10 ≤ t.count 10 := (List.take_sublist i t).count_le _
  omega

theorem st_take_length (t : List UInt8) (i : Nat) : (st (t.take i)).length = ln t i + 1 := by rw [st_length, ln]

/-- The lines that begin at off or ahead of it. -/
theorem st_le (t : List UInt8) (i j : Nat) (hi : i ≤ t.length) (hj : j < (st t).length) : (st t).getD j 0 ≤ i ↔ j < (st (t.take i)).length := by
  rw [st_cut t i hi] at hj ⊢
  rw [List.getD_eq_getElem?_getD, List.getElem?_append]
  split
  · next h =>
    refine ⟨fun _ => h, fun _ => ?_⟩
    rw [List.getElem?_eq_getElem h]
    show (st (t.take i))[j] ≤ i
    have hm := List.getElem_mem h
    generalize (st (t.take i))[j] = x at hm
    simp only [st] at hm
    rcases List.mem_cons.1 hm with rfl | hm
    · omega
    · have := bg_gt hm; rw [List.length_take] at this; omega
  · next h =>
    refine ⟨fun hle => ?_, fun hlt => absurd hlt h⟩
    exfalso
    rw [List.length_append] at hj
    have hb : j - (st (t.take i)).length < (bg i (t.drop i)).length := by omega
    rw [List.getElem?_eq_getElem hb] at hle
    have hm := List.getElem_mem hb
    generalize (bg i (t.drop i))[j - (st (t.take i)).length] = x at hm hle
    have := bg_gt hm
    simp only [Option.getD_some] at hle
    omega

/-- How many places of a row satisfy what holds of a head alone. -/
theorem countP_head (n m : Nat) (f : Nat → Bool) (hm : m ≤ n) (h : ∀ j, j < n → (f j = true ↔ j < m)) : (List.range n).countP f = m := by
  have : (List.range n).countP f = (List.range n).countP (fun j => decide (j < m)) := by
    refine List.countP_congr fun j hj => ?_
    rw [h j (List.mem_range.1 hj)]; simp
  rw [this]
  clear this h
  induction n with
  | zero => simp; omega
  | succ n ih =>
    rw [List.range_succ, List.countP_append]
    by_cases hn : m ≤ n
    · rw [ih hn]; simp; omega
    · have : m = n + 1 := by omega
      subst this
      have : (List.range n).countP (fun j => decide (j < n + 1)) = n := by
        rw [List.countP_eq_length.2]; simp
        intro j hj; have := List.mem_range.1 hj; simp; omega
      rw [this]; simp

theorem after_count (t : List UInt8) (i : Nat) (hi : i ≤ t.length) :
    (List.range (st t).length).countP (fun j => !decide (((i : Int)) < ((st t).getD j 0 : Nat))) = ln t i + 1 := by
  rw [← st_take_length]
  refine countP_head _ _ _ ?_ fun j hj => ?_
  · rw [st_cut t i hi]; simp
  · rw [← st_le t i j hi hj]; simp

/-- What is left where the lines behind a place are cut. -/
theorem st_take (t : List UInt8) (i : Nat) (hi : i ≤ t.length) : (st t).take (ln t i + 1) = st (t.take i) := by
  rw [← st_take_length]
  have h := st_cut t i hi
  rw [h]
  rw [List.take_left' (by rfl)]
theorem st_drop (t : List UInt8) (i : Nat) (hi : i ≤ t.length) : (st t).drop (ln t i + 1) = bg i (t.drop i) := by
  rw [← st_take_length]
  have h := st_cut t i hi
  rw [h]
  rw [List.drop_left' (by rfl)]
theorem st_count (t : List UInt8) (i : Nat) (hi : i ≤ t.length) : (st t).length = (ln t i + 1) + (bg i (t.drop i)).length := by
  rw [← st_take_length, st_cut t i hi]; simp

theorem st_insert (t s : List UInt8) (i : Nat) (hi : i ≤ t.length) :
    st (t.take i ++ s ++ t.drop i) = st (t.take i) ++ (bg 0 s).map (· + i) ++ (bg i (t.drop i)).map (· + s.length) := by
  have hl : (t.take i).length = i := by simp; omega
  rw [st_append, st_append, hl, List.length_append, hl, ← bg_shift, ← bg_shift, Nat.zero_add]

theorem st_delete (t : List UInt8) (i n : Nat) (hi : i + n ≤ t.length) :
    (st (t.take i ++ t.drop (i + n))) = st (t.take i) ++ (bg (i + n) (t.drop (i + n))).map (· - n) := by
  have hl : (t.take i).length = i := by simp; omega
  rw [st_append, hl, bg_shift (t.drop (i + n)) i n, List.map_map]
  congr 1
  rw [show ((fun x => x - n) ∘ fun x => x + n) = id by funext x; simp, List.map_id]

/-! Where a line begins and ends. -/
theorem at0_le (t : List UInt8) (i : Nat) (hi : i ≤ t.length) : at0 t (ln t i) ≤ i :=
  (st_le t i (ln t i) hi (ln_lt t i)).2 (by rw [st_take_length]; omega)
theorem lt_next (t : List UInt8) (i : Nat) (hi : i ≤ t.length) (h : ln t i + 1 < (st t).length) : i < at0 t (ln t i + 1) := by
  have := (st_le t i (ln t i + 1) hi h)
  rw [st_take_length] at this
  unfold at0
  omega

theorem ln_zero (t : List UInt8) : ln t 0 = 0 := by simp [ln]
theorem at0_zero (t : List UInt8) : at0 t 0 = 0 := by simp [at0, st]
theorem ln_succ (t : List UInt8) (i : Nat) (hi : i < t.length) : ln t (i + 1) = ln t i + if t[i] = 10 then 1 else 0 := by
  unfold ln
  rw [List.take_succ_eq_append_getElem hi, List.count_append, List.count_singleton]
  simp

/-- Behind a line feed a line begins. -/
theorem at0_succ (t : List UInt8) (i : Nat) (hi : i < t.length) (h : t[i] = 10) : ln t i + 1 < (st t).length ∧ at0 t (ln t i + 1) = i + 1 := by
  have hs := st_drop t i (by omega)
  rw [List.drop_eq_getElem_cons hi, h] at hs
  simp only [bg, if_pos] at hs
  have hlt : ln t i + 1 < (st t).length := by
    rcases Nat.lt_or_ge (ln t i + 1) (st t).length with h' | h'
    · exact h'
    · rw [List.drop_eq_nil_of_le h'] at hs; cases hs
  refine ⟨hlt, ?_⟩
  unfold at0
  rw [List.drop_eq_getElem_cons hlt] at hs
  rw [List.getD_eq_getElem?_getD, List.getElem?_eq_getElem hlt]
  exact (List.cons.inj hs).1

theorem ln_all (t : List UInt8) : ln t t.length + 1 = (st t).length := by rw [st_length, ln, List.take_length]

/-- How long a line is. -/
def sz (t : List UInt8) (k : Nat) : Nat := if k + 1 < (st t).length then at0 t (k + 1) - 1 - at0 t k else t.length - at0 t k

theorem st_sorted (t : List UInt8) (a b : Nat) (hab : a < b) (hb : b < (st t).length) : at0 t a < at0 t b := by
  by_cases ht : at0 t b ≤ t.length
  · by_cases hb0 : at0 t b = 0
    · -- no line but the first begins at 0
      exfalso
      have h1 := (st_le t 0 b (by omega) hb).1 (by unfold at0 at hb0; omega)
      rw [List.take_zero] at h1
      simp [st, bg] at h1
      omega
    · have hn : ¬ at0 t b ≤ at0 t b - 1 := by omega
      have h1 := mt (st_le t (at0 t b - 1) b (by omega) hb).2 hn
      rcases Nat.lt_or_ge (at0 t a) (at0 t b) with h | h
      · exact h
      · exfalso
        have h2 := (st_le t (at0 t b) b ht hb).1 (Nat.le_refl _)
        have h3 := (st_le t (at0 t b - 1) a (by omega) (by omega))
        have h4 : ¬ at0 t a ≤ at0 t b - 1 := by omega
        have h5 := mt h3.2 h4
        -- both a and b lie behind what ends below at0 b: only one line begins at at0 b
        rw [st_take_length] at h1 h2 h5
        have h6 : ln t (at0 t b) ≤ ln t (at0 t b - 1) + 1 := by
          have := ln_succ t (at0 t b - 1) (by omega)
          rw [show at0 t b - 1 + 1 = at0 t b by omega] at this
          rw [this]; split <;> omega
        omega
  · exfalso
    have h1 := (st_le t t.length b (Nat.le_refl _) hb)
    rw [st_take_length, ln_all] at h1
    exact ht (h1.2 hb)

theorem at0_bound (t : List UInt8) (k : Nat) (hk : k < (st t).length) : at0 t k ≤ t.length := by
  have := (st_le t t.length k (Nat.le_refl _) hk)
  rw [st_take_length, ln_all] at this
  exact this.2 hk

theorem sz_eq (t : List UInt8) (k : Nat) (hk : k < (st t).length) : at0 t k + sz t k ≤ t.length := by
  unfold sz
  have h1 := at0_bound t k hk
  split
  · next h =>
    have h2 := at0_bound t (k + 1) h
    have h3 := st_sorted t k (k + 1) (by omega) h
    omega
  · omega

/-- Off(At(i)). -/
theorem col_le (t : List UInt8) (i : Nat) (hi : i ≤ t.length) : i - at0 t (ln t i) ≤ sz t (ln t i) := by
  unfold sz
  have h1 := at0_le t i hi
  split
  · next h => have := lt_next t i hi h; omega
  · omega

/-- A line's size, at its line feed. -/
theorem sz_feed (t : List UInt8) (i : Nat) (hi : i < t.length) (h : t[i] = 10) : sz t (ln t i) = i - at0 t (ln t i) := by
  obtain ⟨h1, h2⟩ := at0_succ t i hi h
  unfold sz
  rw [if_pos h1, h2]; omega
theorem sz_end (t : List UInt8) : sz t (ln t t.length) = t.length - at0 t (ln t t.length) := by
  unfold sz
  rw [if_neg (by rw [ln_all]; omega)]

end Go.Proofs.YtfllgmgipmmpkaaGreatDoor.Lm
