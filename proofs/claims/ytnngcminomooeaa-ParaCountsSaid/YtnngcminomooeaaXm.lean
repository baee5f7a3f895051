/-
  Sentences and their ends, as lists: no program in sight.
-/
import Derived.Test.YtnngcminomooeaaGs
import Derived.Test.YtnngcminomooeaaSm
import Derived.Test.YtnngcminomooeaaOi
set_option linter.unusedVariables false
set_option linter.unusedSimpArgs false
set_option maxRecDepth 100000
namespace Go.Proofs.Ytnngcminomooeaa.Po
open Go Go.RowKit Go.Proofs.Ytnngcminomooeaa.Vk Go.Proofs.Ytnngcminomooeaa.Str Go.Proofs.Ytnngcminomooeaa.Ln Go.Proofs.Ytnngcminomooeaa.Cl Go.Proofs.Ytnngcminomooeaa.Mv Go.Proofs.Ytnngcminomooeaa.Wd Go.Proofs.Ytnngcminomooeaa.Pa
open Go.Proofs.Ytnngcminomooeaa.So (enr enr_cut enr_length lcell lcell_length lcell_get cells cells_snoc cells_step Cell)
open Go.Proofs.Ytnngcminomooeaa.Wo (On rgv)

/-- How many places are not behind p. -/
def sN (S : List P2) (p : P2) : Nat := S.countP fun q => !lp p q
section
variable {S : List P2} {p : P2}
theorem sN_le : sN S p ≤ S.length := List.countP_le_length
theorem sN_zero (h : ∀ q ∈ S, lp p q = true) : sN S p = 0 := List.countP_eq_zero.2 (fun q hq => by rw [h q hq]; decide)
theorem sN_all (h : ∀ q ∈ S, lp p q = false) : sN S p = S.length := List.countP_eq_length.2 (fun q hq => by rw [h q hq]; decide)
theorem sN_at (hs : S.Pairwise fun a b => lp a b = true) : ∀ i, (h : i < S.length) → lp p S[i] = decide (sN S p ≤ i) := by
  induction S with
  | nil => intro i h; simp at h
  | cons x r ih =>
    rw [List.pairwise_cons] at hs
    cases hx : lp p x with
    | true =>
      have h0 : sN (x :: r) p = 0 := sN_zero (fun q hq => by
        rcases List.mem_cons.1 hq with rfl | hq
        · exact hx
        · exact lp_trans _ _ _ hx (hs.1 q hq))
      intro i h
      rw [h0, decide_eq_true (Nat.zero_le _)]
      cases i with
      | zero => exact hx
      | succ i => exact lp_trans _ _ _ hx (hs.1 _ (List.getElem_mem _))
    | false =>
      have h1 : sN (x :: r) p = sN r p + 1 := by unfold sN; rw [List.countP_cons, hx]; simp
      intro i h
      rw [h1]
      cases i with
      | zero => rw [decide_eq_false (by omega)]; exact hx
      | succ i =>
        rw [List.getElem_cons_succ, ih hs.2 i (by simpa using h)]
        by_cases e : sN r p ≤ i
        · rw [decide_eq_true e, decide_eq_true (by omega)]
        · rw [decide_eq_false e, decide_eq_false (by omega)]
theorem sN_stop (hs : S.Pairwise fun a b => lp a b = true) {pre rest : List P2} {x : P2} (h : S = pre ++ x :: rest) (hp : ∀ q ∈ pre, lp p q = false) (hx : lp p x = true) : sN S p = pre.length := by
  subst h
  have h2 := (List.pairwise_append.1 hs).2.1
  rw [List.pairwise_cons] at h2
  have e1 : sN pre p = pre.length := sN_all hp
  have e2 : sN (x :: rest) p = 0 := sN_zero (fun q hq => by
    rcases List.mem_cons.1 hq with rfl | hq
    · exact hx
    · exact lp_trans _ _ _ hx (h2.1 q hq))
  unfold sN at *
  rw [List.countP_append, e1, e2, Nat.add_zero]
end
/-- The end of the text. -/
def eP (ls : List ByteArray) : P2 := (ls.length - 1, (lineAt ls (ls.length - 1)).size)
/-- Where the sentence of p begins, and the next one. -/
def sfr (S : List P2) (p : P2) : P2 := (S.take (sN S p)).getLastD (0, 0)
def sto (ls : List ByteArray) (S : List P2) (p : P2) : P2 := if sN S p < S.length then S.getD (sN S p) (0, 0) else eP ls
def sok (S : List P2) (p : P2) : Bool := !(S.take (sN S p)).isEmpty
section
variable {S : List P2} {p : P2} {ls : List ByteArray}
theorem s_stop (hs : S.Pairwise fun a b => lp a b = true) {pre rest : List P2} {x : P2} (h : S = pre ++ x :: rest) (hp : ∀ q ∈ pre, lp p q = false) (hx : lp p x = true) : sfr S p = pre.getLastD (0, 0) ∧ sto ls S p = x ∧ sok S p = !pre.isEmpty := by
  have hn := sN_stop hs h hp hx
  unfold sfr sto sok
  rw [hn]
  subst h
  refine ⟨by rw [List.take_left' rfl], ?_, by rw [List.take_left' rfl]⟩
  rw [if_pos (by simp), List.getD_eq_getElem?_getD]
  simp
theorem s_done (hp : ∀ q ∈ S, lp p q = false) : sfr S p = S.getLastD (0, 0) ∧ sto ls S p = eP ls ∧ sok S p = !S.isEmpty := by
  have hn := sN_all hp
  unfold sfr sto sok
  rw [hn, List.take_length, if_neg (by omega)]
  exact ⟨rfl, rfl, rfl⟩
theorem sok_iff : sok S p = decide (0 < sN S p) := by
  unfold sok
  have := sN_le (S := S) (p := p)
  by_cases h : 0 < sN S p
  · rw [decide_eq_true h]
    have : S.take (sN S p) ≠ [] := fun e => by
      have h2 := congrArg List.length e
      rw [List.length_take, Nat.min_eq_left this] at h2
      simp at h2
      omega
    cases hh : S.take (sN S p) with
    | nil => exact (this hh).elim
    | cons => rfl
  · rw [decide_eq_false h, show sN S p = 0 by omega]; rfl
theorem sfr_at (h : 0 < sN S p) : sfr S p = S[sN S p - 1]'(by have := sN_le (S := S) (p := p); omega) := by
  have hl := sN_le (S := S) (p := p)
  unfold sfr
  rw [List.getLastD_eq_getLast?, List.getLast?_eq_getElem?, List.length_take, Nat.min_eq_left hl, List.getElem?_take, if_pos (by omega), List.getElem?_eq_getElem (by omega)]
  rfl
theorem sto_at (h : sN S p < S.length) : sto ls S p = S[sN S p] := by
  unfold sto
  rw [if_pos h, List.getD_eq_getElem?_getD, List.getElem?_eq_getElem h]; rfl
theorem sto_end (h : ¬ sN S p < S.length) : sto ls S p = eP ls := if_neg h
end

/-- A byte between a and b that is no blank. -/
def okc (a b : P2) (x : Cell) : Bool := !lp x.1 a && (lp x.1 b && decide (cls (x.2.toNat : Int) true ≠ 0))
/-- The place behind the last of them. -/
def wb (a b e : P2) (cs : List Cell) : P2 := cs.foldl (fun e x => if okc a b x = true then (x.1.1, x.1.2 + 1) else e) e
section
variable {a b e : P2} {cs ds : List Cell} {x : Cell}
theorem wb_nil : wb a b e [] = e := rfl
theorem wb_append : wb a b e (cs ++ ds) = wb a b (wb a b e cs) ds := by unfold wb; rw [List.foldl_append]
theorem wb_yes (h : okc a b x = true) : wb a b e (cs ++ [x]) = (x.1.1, x.1.2 + 1) := by rw [wb_append]; exact if_pos h
theorem wb_no (h : okc a b x = false) : wb a b e (cs ++ [x]) = wb a b e cs := by rw [wb_append]; exact if_neg (by rw [h]; simp)
theorem wb_none (h : ∀ x ∈ cs, okc a b x = false) : wb a b e cs = e := by
  induction cs with
  | nil => rfl
  | cons x r ih =>
    have h0 := h x (List.mem_cons_self)
    show wb a b (if okc a b x = true then (x.1.1, x.1.2 + 1) else e) r = e
    rw [if_neg (by rw [h0]; simp)]
    exact ih (fun y hy => h y (List.mem_cons_of_mem _ hy))
theorem wb_is : wb a b e cs = e ∨ ∃ x ∈ cs, okc a b x = true ∧ wb a b e cs = (x.1.1, x.1.2 + 1) := by
  induction cs generalizing e with
  | nil => exact .inl rfl
  | cons x r ih =>
    show wb a b (if okc a b x = true then (x.1.1, x.1.2 + 1) else e) r = e ∨ _
    by_cases h : okc a b x = true
    · rw [if_pos h]
      rcases ih (e := (x.1.1, x.1.2 + 1)) with h1 | ⟨y, hy, h1, h2⟩
      · exact .inr ⟨x, List.mem_cons_self, h, h1.symm ▸ (by show wb a b (if okc a b x = true then (x.1.1, x.1.2 + 1) else e) r = _; rw [if_pos h, h1])⟩
      · exact .inr ⟨y, List.mem_cons_of_mem _ hy, h1, by show wb a b (if okc a b x = true then (x.1.1, x.1.2 + 1) else e) r = _; rw [if_pos h, h2]⟩
    · rw [if_neg h]
      rcases ih (e := e) with h1 | ⟨y, hy, h1, h2⟩
      · exact .inl h1
      · exact .inr ⟨y, List.mem_cons_of_mem _ hy, h1, by show wb a b (if okc a b x = true then (x.1.1, x.1.2 + 1) else e) r = _; rw [if_neg h, h2]⟩
theorem okc_low (h : lp x.1 a = true) : okc a b x = false := by unfold okc; rw [h]; rfl
theorem okc_high (h : lp x.1 b = false) : okc a b x = false := by unfold okc; rw [h]; simp
end
theorem lcell_mem {i : Nat} {s : ByteArray} {x : Cell} (h : x ∈ lcell (i, s)) : x.1.1 = i ∧ ∃ hj : x.1.2 < s.size, x.2 = s[x.1.2] := by
  obtain ⟨j, hj, rfl⟩ := List.getElem_of_mem h
  have hj' : j < s.size := by rw [lcell_length] at hj; exact hj
  have e := lcell_get i s j hj'
  rw [List.getElem?_eq_getElem hj] at e
  injection e with e
  rw [e]
  exact ⟨rfl, hj', rfl⟩
theorem lcell_sorted (i : Nat) (s : ByteArray) : (lcell (i, s)).Pairwise fun x y => lp x.1 y.1 = true := by
  unfold lcell
  rw [List.pairwise_map]
  refine List.Pairwise.imp ?_ (List.pairwise_lt_range (n := s.size))
  intro a b h
  exact lp_iff.2 (.inr ⟨rfl, h⟩)
theorem cells_sorted (ls : List ByteArray) (f cnt : Nat) : (cells (enr ls f cnt)).Pairwise fun x y => lp x.1 y.1 = true := by
  unfold cells enr
  rw [List.pairwise_flatMap]
  refine ⟨fun a _ => lcell_sorted _ _, ?_⟩
  rw [List.pairwise_map]
  refine List.pairwise_lt_range.imp (fun h x hx y hy => ?_)
  have h1 := (lcell_mem hx).1
  have h2 := (lcell_mem hy).1
  exact lp_iff.2 (.inl (by rw [h1, h2]; omega))
theorem cells_mem {ls : List ByteArray} {f cnt : Nat} {x : Cell} (h : x ∈ cells (enr ls f cnt)) : f ≤ x.1.1 ∧ x.1.1 < f + cnt ∧ ∃ hj : x.1.2 < (lineAt ls x.1.1).size, x.2 = (lineAt ls x.1.1)[x.1.2] := by
  unfold cells enr at h
  obtain ⟨y, hy, hx⟩ := List.mem_flatMap.1 h
  obtain ⟨k, hk, rfl⟩ := List.mem_map.1 hy
  have hk := List.mem_range.1 hk
  obtain ⟨e, h1⟩ := lcell_mem hx
  rw [e]
  exact ⟨by omega, by omega, h1⟩
theorem cells_cut (ls : List ByteArray) {k n : Nat} (h : k ≤ n) : cells (enr ls 0 n) = cells (enr ls 0 k) ++ cells (enr ls k (n - k)) := by
  obtain ⟨d, rfl⟩ : ∃ d, n = k + d := ⟨n - k, by omega⟩
  unfold cells enr
  rw [show k + d - k = d by omega, List.range_add, List.map_append, List.flatMap_append, List.map_map]
  simp [Function.comp_def]
/-- The place behind the last byte between a and b that is no blank: a if there is none. -/
def wend (ls : List ByteArray) (a b : P2) : P2 := wb a b a (cells (enr ls 0 ls.length))
section
variable {ls : List ByteArray} {a b : P2}
theorem wend_stop {pre rest : List Cell} {x : Cell} (h : cells (enr ls 0 ls.length) = pre ++ x :: rest) (hx : lp x.1 b = false) : wend ls a b = wb a b a pre := by
  unfold wend
  have hs := cells_sorted ls 0 ls.length
  rw [h] at hs ⊢
  have h2 := (List.pairwise_append.1 hs).2.1
  rw [List.pairwise_cons] at h2
  rw [wb_append, wb_none]
  intro y hy
  rcases List.mem_cons.1 hy with rfl | hy
  · exact okc_high hx
  · refine okc_high ?_
    cases hb : lp y.1 b with
    | false => rfl
    | true => rw [lp_trans _ _ _ (h2.1 y hy) hb] at hx; cases hx
theorem wb_low {k : Nat} (h : k ≤ a.1) : wb a b a (cells (enr ls 0 k)) = a :=
  wb_none (fun x hx => okc_low (lp_iff.2 (.inl (by have := (cells_mem hx).2.1; omega))))
theorem wb_high {k : Nat} (hk : b.1 < k) (hn : k ≤ ls.length) : wend ls a b = wb a b a (cells (enr ls 0 k)) := by
  unfold wend
  rw [cells_cut ls hn, wb_append, wb_none]
  intro x hx
  have := (cells_mem hx).1
  exact okc_high (lp_false.2 (by omega))
theorem wend_is : wend ls a b = a ∨ ∃ i j, wend ls a b = (i, j + 1) ∧ i < ls.length ∧ lp (i, j) a = false ∧ lp (i, j) b = true ∧ ∃ hj : j < (lineAt ls i).size, cls ((lineAt ls i)[j].toNat : Int) true ≠ 0 := by
  rcases wb_is (a := a) (b := b) (e := a) (cs := cells (enr ls 0 ls.length)) with h | ⟨x, hx, ho, h⟩
  · exact .inl h
  · obtain ⟨_, h2, hj, hv⟩ := cells_mem hx
    unfold okc at ho
    rw [Bool.and_eq_true, Bool.and_eq_true] at ho
    obtain ⟨o1, o2, o3⟩ := ho
    refine .inr ⟨x.1.1, x.1.2, h, by omega, by simpa using o1, o2, hj, ?_⟩
    rw [← hv]
    simpa using o3
end
/-- The sentence of a place. -/
def snA (ls : List ByteArray) (p : P2) (ar : Bool) : Option (P2 × P2) :=
  if sok (sen ls) p = true then (if sfr (sen ls) p = (if ar = true then sto ls (sen ls) p else wend ls (sfr (sen ls) p) (sto ls (sen ls) p)) then none else some (sfr (sen ls) p, if ar = true then sto ls (sen ls) p else wend ls (sfr (sen ls) p) (sto ls (sen ls) p))) else none
def snQ (ls : List ByteArray) (l c : Int) (ar : Bool) : Option (P2 × P2) := if On ls l c then snA ls (l.toNat, c.toNat) ar else none
def snW : Option (P2 × P2) → Value
  | some (a, e) => .tuple #[rgv 0 a.1 a.2 e.1 e.2, .bool true]
  | none => .tuple #[rgv 0 0 0 0 0, .bool false]
theorem snQ_no {ls : List ByteArray} {l c : Int} {ar : Bool} (h : ¬ On ls l c) : snQ ls l c ar = none := if_neg h
theorem snQ_yes {ls : List ByteArray} {i k : Nat} {ar : Bool} (h : On ls i k) : snQ ls i k ar = snA ls (i, k) ar := by
  unfold snQ; rw [if_pos h]; simp
end Go.Proofs.Ytnngcminomooeaa.Po
