/-
  Texts by lines, as lists: no program in sight.
-/
import Derived.Test.YtfllgmgipmmpkaaGreatDoorLm
import Derived.Lib.SplitLaws
import Derived.Lib.IndexBytes
set_option linter.unusedVariables false
set_option linter.unusedSimpArgs false
set_option maxRecDepth 100000
namespace Go.Proofs.YtfllgmgipmmpkaaGreatDoor.Tm
open Go Go.Proofs.YtfllgmgipmmpkaaGreatDoor.Lm

/-- The text of lines: behind each a line feed. -/
def jn (ls : List ByteArray) : List UInt8 := ls.flatMap fun s => s.data.toList ++ [10]
def NoLf (ls : List ByteArray) : Prop := ∀ s ∈ ls, (10 : UInt8) ∉ s.data.toList

theorem bytes_inj {a b : ByteArray} (h : a.data.toList = b.data.toList) : a = b := by
  cases a; cases b; simp only [ByteArray.mk.injEq]; exact Array.toList_inj.1 h
theorem size_list (s : ByteArray) : s.data.toList.length = s.size := by simp

theorem jn_nil : jn [] = [] := rfl
theorem jn_cons (s : ByteArray) (ls : List ByteArray) : jn (s :: ls) = s.data.toList ++ [10] ++ jn ls := by simp [jn]
theorem jn_append (a b : List ByteArray) : jn (a ++ b) = jn a ++ jn b := by simp [jn]
theorem jn_one (s : ByteArray) : jn [s] = s.data.toList ++ [10] := by simp [jn]
theorem jn_snoc (a : List ByteArray) (s : ByteArray) : jn (a ++ [s]) = jn a ++ s.data.toList ++ [10] := by rw [jn_append, jn_one]; simp
theorem jn_len_cons (s : ByteArray) (ls : List ByteArray) : (jn (s :: ls)).length = s.size + 1 + (jn ls).length := by rw [jn_cons, List.length_append, List.length_append, size_list]; rfl
theorem jn_len_append (a b : List ByteArray) : (jn (a ++ b)).length = (jn a).length + (jn b).length := by rw [jn_append]; simp
theorem jn_len_one (s : ByteArray) : (jn [s]).length = s.size + 1 := by rw [jn_len_cons, jn_nil]; rfl
theorem jn_len_ge (ls : List ByteArray) : ls.length ≤ (jn ls).length := by
  induction ls with
  | nil => simp
  | cons s r ih => rw [jn_len_cons]; simp only [List.length_cons]; omega
theorem jn_len_take (ls : List ByteArray) (k : Nat) : (jn (ls.take k)).length ≤ (jn ls).length := by
  conv => rhs; rw [← List.take_append_drop k ls]
  rw [jn_len_append]; omega
theorem jn_len_mono (ls : List ByteArray) {j k : Nat} (h : j ≤ k) : (jn (ls.take j)).length ≤ (jn (ls.take k)).length := by
  have := jn_len_take (ls.take k) j
  rwa [List.take_take, Nat.min_eq_left h] at this
theorem jn_len_next (ls : List ByteArray) (k : Nat) (h : k < ls.length) : (jn (ls.take (k + 1))).length = (jn (ls.take k)).length + ls[k].size + 1 := by
  rw [List.take_succ_eq_append_getElem h, jn_len_append, jn_len_one]; omega
theorem jn_len_mem (ls : List ByteArray) (s : ByteArray) (h : s ∈ ls) : s.size + 1 ≤ (jn ls).length := by
  induction ls with
  | nil => simp at h
  | cons x r ih => rw [jn_len_cons]; rcases List.mem_cons.1 h with rfl | h; · omega
                   · have := ih h; omega

theorem NoLf.append {a b : List ByteArray} (ha : NoLf a) (hb : NoLf b) : NoLf (a ++ b) := fun s h => by
  rcases List.mem_append.1 h with h | h
  · exact ha s h
  · exact hb s h
theorem NoLf.take {a : List ByteArray} (ha : NoLf a) (k : Nat) : NoLf (a.take k) := fun s h => ha s (List.mem_of_mem_take h)
theorem NoLf.drop {a : List ByteArray} (ha : NoLf a) (k : Nat) : NoLf (a.drop k) := fun s h => ha s (List.mem_of_mem_drop h)
theorem NoLf.empty : NoLf [⟨#[]⟩] := fun s h => by rw [List.mem_singleton.1 h]; simp

theorem jn_take (ls : List ByteArray) (k : Nat) : (jn ls).take (jn (ls.take k)).length = jn (ls.take k) := by
  conv => lhs; arg 2; rw [← List.take_append_drop k ls]
  rw [jn_append, List.take_left' rfl]
theorem jn_drop (ls : List ByteArray) (k : Nat) : (jn ls).drop (jn (ls.take k)).length = jn (ls.drop k) := by
  conv => lhs; arg 2; rw [← List.take_append_drop k ls]
  rw [jn_append, List.drop_left' rfl]

theorem bg_clean (t : List UInt8) (h : (10 : UInt8) ∉ t) : ∀ k, bg k t = [] := by
  induction t with
  | nil => intro k; rfl
  | cons c cs ih =>
    intro k
    simp only [List.mem_cons, not_or] at h
    simp only [bg, if_neg (Ne.symm h.1)]
    exact ih h.2 _
theorem bg_jn (ls : List ByteArray) (h : NoLf ls) : ∀ k, bg k (jn ls) = (List.range ls.length).map fun j => k + (jn (ls.take (j + 1))).length := by
  induction ls with
  | nil => intro k; rfl
  | cons s r ih =>
    intro k
    rw [jn_cons, bg_append, bg_append, bg_clean _ (h s (by simp)), ih (fun x hx => h x (by simp [hx]))]
    simp only [bg, if_pos, List.nil_append, List.length_cons, List.length_append, List.length_nil, List.singleton_append]
    rw [List.range_succ_eq_map, List.map_cons, List.map_map]
    congr 1
    · rw [List.take_succ_cons, List.take_zero, jn_len_one, ← size_list]; omega
    · refine List.map_congr_left fun j _ => ?_
      simp only [Function.comp_apply]
      rw [List.take_succ_cons, jn_len_cons, ← size_list]; omega
theorem st_jn_length (ls : List ByteArray) (h : NoLf ls) : (st (jn ls)).length = ls.length + 1 := by
  simp [st, bg_jn ls h]
theorem at0_jn (ls : List ByteArray) (h : NoLf ls) (k : Nat) (hk : k ≤ ls.length) : at0 (jn ls) k = (jn (ls.take k)).length := by
  unfold at0 st
  rw [bg_jn ls h]
  cases k with
  | zero => simp [jn]
  | succ k => rw [List.getD_cons_succ, List.getD_eq_getElem?_getD, List.getElem?_map, List.getElem?_range (by omega)]; simp
theorem sz_jn (ls : List ByteArray) (h : NoLf ls) (k : Nat) (hk : k < ls.length) : sz (jn ls) k = ls[k].size := by
  unfold sz
  rw [st_jn_length ls h, if_pos (by omega), at0_jn ls h k (by omega), at0_jn ls h (k + 1) (by omega), jn_len_next ls k hk]
  omega
theorem line_jn (ls : List ByteArray) (k : Nat) (hk : k < ls.length) : ((jn ls).drop (jn (ls.take k)).length).take ls[k].size = ls[k].data.toList := by
  rw [jn_drop, List.drop_eq_getElem_cons hk, jn_cons, List.append_assoc, ← size_list, List.take_left' rfl]

/-- Lines replaced, and their text. -/
def rep (ls : List ByteArray) (a n : Nat) (new : List ByteArray) : List ByteArray := ls.take a ++ new ++ ls.drop (a + n)
theorem rep_jn (ls new : List ByteArray) (a n : Nat) (h : a + n ≤ ls.length) :
    jn (rep ls a n new) = (jn ls).take (jn (ls.take a)).length ++ jn new ++ (jn ls).drop (jn (ls.take (a + n))).length := by
  rw [rep, jn_append, jn_append, jn_take, jn_drop]
theorem rep_length (ls new : List ByteArray) (a n : Nat) (h : a + n ≤ ls.length) : (rep ls a n new).length = ls.length - n + new.length := by
  simp [rep]; omega
theorem rep_jn_len (ls new : List ByteArray) (a n : Nat) (h : a + n ≤ ls.length) :
    (jn (rep ls a n new)).length + ((jn (ls.take (a + n))).length - (jn (ls.take a)).length) = (jn ls).length + (jn new).length := by
  have h1 := jn_len_take ls (a + n)
  have h2 := jn_len_mono ls (show a ≤ a + n by omega)
  rw [rep_jn ls new a n h]
  simp only [List.length_append, List.length_take, List.length_drop]
  omega
theorem rep_clean {ls new : List ByteArray} (a n : Nat) (h : NoLf ls) (hn : NoLf new) : NoLf (rep ls a n new) := ((h.take a).append hn).append (h.drop (a + n))

/-- Which lines a text ends in, each with its line feed, is told by the text. -/
theorem cut_at {a b a' b' : List UInt8} (h : (10 : UInt8) ∉ a) (h' : (10 : UInt8) ∉ a') (e : a ++ 10 :: b = a' ++ 10 :: b') : a = a' ∧ b = b' := by
  induction a generalizing a' with
  | nil =>
    cases a' with
    | nil => simpa using e
    | cons c r => simp at e; simp [← e.1] at h'
  | cons c r ih =>
    cases a' with
    | nil => simp at e; simp [e.1] at h
    | cons d r' =>
      simp only [List.cons_append, List.cons.injEq] at e
      simp only [List.mem_cons, not_or] at h h'
      obtain ⟨x, y⟩ := ih h.2 h'.2 e.2
      exact ⟨by rw [e.1, x], y⟩
theorem jn_inj {a b : List ByteArray} (ha : NoLf a) (hb : NoLf b) (e : jn a = jn b) : a = b := by
  induction a generalizing b with
  | nil => cases b with
    | nil => rfl
    | cons s r => rw [jn_cons, jn_nil] at e; simp at e
  | cons s r ih =>
    cases b with
    | nil => rw [jn_cons, jn_nil] at e; simp at e
    | cons s' r' =>
      rw [jn_cons, jn_cons, List.append_assoc, List.append_assoc] at e
      obtain ⟨x, y⟩ := cut_at (ha s (by simp)) (hb s' (by simp)) e
      rw [bytes_inj x, ih (fun z hz => ha z (by simp [hz])) (fun z hz => hb z (by simp [hz])) y]

/-- Every text is so made, but for the last line feed. -/
theorem cut_first (t : List UInt8) : (10 : UInt8) ∉ t ∨ ∃ a b, t = a ++ 10 :: b ∧ (10 : UInt8) ∉ a := by
  induction t with
  | nil => exact .inl (by simp)
  | cons c r ih =>
    by_cases hc : c = 10
    · exact .inr ⟨[], r, by simp [hc], by simp⟩
    · rcases ih with h | ⟨a, b, rfl, h⟩
      · exact .inl (by simp [h, Ne.symm hc])
      · exact .inr ⟨c :: a, b, by simp, by simp [h, Ne.symm hc]⟩
theorem lines_of (t : List UInt8) : ∃ ls, NoLf ls ∧ ls ≠ [] ∧ jn ls = t ++ [10] := by
  obtain ⟨n, hn⟩ : ∃ n, t.length ≤ n := ⟨_, Nat.le_refl _⟩
  induction n generalizing t with
  | zero => obtain rfl : t = [] := List.length_eq_zero_iff.1 (by omega); exact ⟨[⟨#[]⟩], NoLf.empty, by simp, by simp [jn]⟩
  | succ n ih =>
    rcases cut_first t with h | ⟨a, b, rfl, h⟩
    · exact ⟨[⟨t.toArray⟩], fun s hs => by rw [List.mem_singleton.1 hs]; exact h, by simp, by simp [jn]⟩
    · simp at hn
      obtain ⟨ls, h1, h2, h3⟩ := ih b (by omega)
      exact ⟨⟨a.toArray⟩ :: ls, fun s hs => by
        rcases List.mem_cons.1 hs with rfl | hs
        · exact h
        · exact h1 s hs, by simp, by rw [jn_cons, h3]; simp⟩

/-! What strings.Split comes to. -/
theorem index_clean (t : List UInt8) (h : (10 : UInt8) ∉ t) : Lib.index t [10] = -1 := by
  rw [Lib.index_one]
  induction t with
  | nil => rfl
  | cons c r ih =>
    simp only [List.mem_cons, not_or] at h
    rw [Lib.indexByte, if_neg (by simpa using Ne.symm h.1), ih h.2]; rfl
theorem index_at (a b : List UInt8) (h : (10 : UInt8) ∉ a) : Lib.index (a ++ 10 :: b) [10] = a.length := by
  rw [Lib.index_one]
  induction a with
  | nil => rfl
  | cons c r ih =>
    simp only [List.mem_cons, not_or] at h
    rw [List.cons_append, Lib.indexByte, if_neg (by simpa using Ne.symm h.1), ih h.2, if_neg (by simp)]
    simp
theorem splitK_lines (ls : List ByteArray) (h : NoLf ls) (h0 : ls ≠ []) : ∀ (t : List UInt8), jn ls = t ++ [10] → Lib.splitK [10] 0 (t.count 10) t = ls.map (·.data.toList) := by
  induction ls with
  | nil => exact absurd rfl h0
  | cons s r ih =>
    intro t ht
    have hs := h s (by simp)
    rw [jn_cons, List.append_assoc] at ht
    cases r with
    | nil =>
      rw [jn_nil, List.append_nil, List.append_cancel_right_eq] at ht
      subst ht
      rw [List.count_eq_zero.2 hs]; rfl
    | cons s2 r2 =>
      have hr := ih (fun z hz => h z (by simp [hz])) (by simp)
      obtain ⟨t2, ht2⟩ : ∃ t2, jn (s2 :: r2) = t2 ++ [10] := by
        rcases List.eq_nil_or_concat (s2 :: r2) with h | ⟨l, x, h⟩
        · cases h
        · exact ⟨jn l ++ x.data.toList, by rw [h, List.concat_eq_append, jn_snoc]⟩
      have et : t = s.data.toList ++ 10 :: t2 := by
        rw [ht2] at ht
        have : s.data.toList ++ 10 :: t2 ++ [10] = t ++ [10] := by rw [← ht]; simp
        exact (List.append_cancel_right this).symm
      subst et
      rw [show (s.data.toList ++ 10 :: t2).count 10 = t2.count 10 + 1 by rw [List.count_append, List.count_cons, List.count_eq_zero.2 hs]; simp]
      rw [Lib.splitK, if_neg (by rw [index_at _ _ hs]; simp), index_at _ _ hs]
      rw [show ((s.data.toList.length : Int).toNat + 0) = s.data.toList.length by simp, List.take_left' rfl]
      rw [show ((s.data.toList.length : Int).toNat + ([10] : List UInt8).length) = s.data.toList.length + 1 by simp]
      rw [show (s.data.toList ++ 10 :: t2).drop (s.data.toList.length + 1) = t2 by rw [show s.data.toList ++ 10 :: t2 = s.data.toList ++ [10] ++ t2 by simp, List.drop_left' (by simp)]]
      rw [hr t2 ht2]; simp only [List.map_cons]

end Go.Proofs.YtfllgmgipmmpkaaGreatDoor.Tm
