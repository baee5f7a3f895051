/-
  The law IndexPlaces: what stands in its rounds, and at its end.
-/
import Derived.Test.YtndfbjpgbpcimaaLRel
import Derived.LoopTactic
set_option linter.unusedVariables false
namespace Go.Proofs.Ytndfbjpgbpcimaa.LPlc
open Go Go.RowKit Go.Proofs.Ytndfbjpgbpcimaa.Vk Go.Proofs.Ytndfbjpgbpcimaa.Lm Go.Proofs.Ytndfbjpgbpcimaa.Lx Go.Proofs.Ytndfbjpgbpcimaa.Str Go.Shelf
open VecI (E infoE underS)

/-- The starts ahead of i. -/
def hdl (t : List UInt8) (i : Nat) : List Int := if i = 0 then [] else sti (t.take (i - 1))

theorem hdl_zero (t : List UInt8) : hdl t 0 = [] := rfl
theorem hdl_one (t : List UInt8) : hdl t 1 = [0] := by simp [hdl, sti, st, bg]
theorem bg_one (k : Nat) (c : UInt8) : bg k [c] = if c = 10 then [k + 1] else [] := by
  simp [bg]
theorem hdl_succ (t : List UInt8) (i : Nat) (hi : 0 < i) (hl : i ≤ t.length) : hdl t (i + 1) = hdl t i ++ if t[i - 1]'(by omega) = 10 then [(i : Int)] else [] := by
  obtain ⟨j, rfl⟩ : ∃ j, i = j + 1 := ⟨i - 1, by omega⟩
  have hj : j < t.length := by omega
  unfold hdl
  rw [if_neg (by omega), if_neg (by omega)]
  simp only [Nat.add_sub_cancel]
  rw [List.take_succ_eq_append_getElem hj]
  unfold sti
  rw [st_append, bg_one, List.map_append, List.length_take, Nat.min_eq_left (by omega)]
  split <;> simp
theorem hdl_all (t : List UInt8) : hdl t (t.length + 1) = sti t := by
  unfold hdl
  rw [if_neg (by omega), Nat.add_sub_cancel, List.take_length]
theorem hdl_length (t : List UInt8) (i : Nat) : (hdl t i).length ≤ t.length + 1 := by
  unfold hdl
  split
  · simp
  · rw [sti_length]
    have := st_length_le (t.take (i - 1))
    rw [List.length_take] at this
    omega

/-- The starts, and where the text ends. -/
def at1 (t : List UInt8) (j : Nat) : Nat := if j < (st t).length then at0 t j else t.length + 1
theorem at1_lt (t : List UInt8) (j : Nat) (h : j < (st t).length) : at1 t j = at0 t j := if_pos h
theorem at1_next (t : List UInt8) (j : Nat) (h : j < (st t).length) : at1 t (j + 1) = at0 t j + sz t j + 1 := by
  have h1 := at0_bound t j h
  unfold at1 sz
  split
  · next h2 => have := st_sorted t j (j + 1) (by omega) h2; omega
  · omega
theorem all_get (t : List UInt8) (j : Nat) (h : j < (st t).length + 1) : (sti t ++ [(t.length : Int) + 1])[j]? = some ((at1 t j : Nat) : Int) := by
  unfold at1
  split
  · next h1 =>
    rw [List.getElem?_append_left (by rw [sti_length]; exact h1)]
    have h2 := sti_getD t j
    rw [List.getD_eq_getElem?_getD, List.getElem?_eq_getElem (by rw [sti_length]; exact h1)] at h2
    rw [List.getElem?_eq_getElem (by rw [sti_length]; exact h1)]
    simp only [Option.getD_some] at h2
    rw [h2]
  · obtain rfl : j = (st t).length := by omega
    rw [List.getElem?_append_right (by rw [sti_length]; omega), sti_length, Nat.sub_self]
    simp

/-- What stands in each round of the first loop. -/
def PRel (w : World) (l c : Int) (p B : Nat) (T : List UInt8) (xs : List Int) (b : Option Addr) (k cc : Nat) (V : World) : Prop :=
  Below w.heap.size w V ∧ B ≤ V.heap.size ∧ V.heap[w.heap.size]? = some (.cells #[.int .i64 l, .int .i64 c] 33 (0, 0)) ∧ w.heap.size < B ∧
    (∃ F, Idx V w.heap.size p F T ∧ ∀ j, F j → j < B) ∧ V.ownsRow B E 1 (.slice b k cc) k (iv xs)

/-- What stands behind it. -/
def PFin (w : World) (l c : Int) (p g : Nat) (T : List UInt8) (V : World) : Prop :=
  Below w.heap.size w V ∧ V.cell? ⟨w.heap.size, 0, none⟩ = some (.int .i64 l) ∧ V.cell? ⟨w.heap.size, 1, none⟩ = some (.int .i64 c) ∧
    (∃ F, Idx V w.heap.size p F T) ∧ (∀ j, j < (st T).length + 1 → V.cell? ⟨g, j, none⟩ = some (.int .i64 (at1 T j : Nat))) ∧ w.heap.size < V.heap.size ∧ g < V.heap.size

variable {w V V' : World} {l c : Int} {p B g : Nat} {T : List UInt8} {xs : List Int} {b : Option Addr} {k cc : Nat}

theorem PRel.grow {b' : Option Addr} {cc' k' : Nat} {ys : List Int} {o : Obj} (h : PRel w l c p B T xs b k cc V) (hg : (V.alloc o).grownBy V' (Value.slice b k cc).ownBlock) (hown : V'.ownsRow B E 1 (.slice b' k' cc') k' (iv ys)) : PRel w l c p B T ys b' k' cc' V' := by
  obtain ⟨h1, h2, h3, h4, ⟨F, h5, h6⟩, h7⟩ := h
  have hf : Fr (fun j => (Value.slice b k cc).ownBlock = some j) V V' := ((Fr.refl _ V).alloc o).grown hg (fun j hj _ => hj)
  have hlt : ∀ j, (Value.slice b k cc).ownBlock = some j → B ≤ j := fun j hj => (h7.lt j hj).1
  have hz := h1.size
  refine ⟨h1.trans (hf.below h1.size (fun j hj => by have := hlt j hj; omega)), Nat.le_trans h2 hf.size, (hf.block _ (by omega) (fun hj => by have := hlt _ hj; omega)).trans h3, h4, ⟨F, h5.fr hf (fun j hj hj2 => by have := hlt j hj2; have := h6 j hj; omega), h6⟩, hown⟩

theorem PRel.fin (h : PRel w l c p B T (sti T ++ [(T.length : Int) + 1]) (some ⟨g, 0, none⟩) k cc V) : PFin w l c p g T V := by
  obtain ⟨h1, h2, h3, h4, ⟨F, h5, h6⟩, h7⟩ := h
  have hz := h7.lt g rfl
  refine ⟨h1, (cell_of_row V _ 0 _ _ _ h3).trans (by simp), (cell_of_row V _ 1 _ _ _ h3).trans (by simp), ⟨F, h5⟩, fun j hj => ?_, by omega, hz.2⟩
  have hl : (iv (sti T ++ [(T.length : Int) + 1])).length = (st T).length + 1 := by simp [iv, sti_length]
  have := h7.cellAt j (by have := h7.1; omega)
  refine this.trans ?_
  have := all_get T j hj
  simp only [iv, List.getElem?_map, this, Option.map_some]

theorem PFin.keep (h : PFin w l c p g T V) (hb : Below V.heap.size V V') : PFin w l c p g T V' := by
  obtain ⟨h1, h2, h3, ⟨F, h4⟩, h5, h6, h7⟩ := h
  have hz := hb.size
  exact ⟨h1.trans (hb.mono h1.size), (hb.cell (p := ⟨w.heap.size, 0, none⟩) h6).trans h2, (hb.cell (p := ⟨w.heap.size, 1, none⟩) h6).trans h3, ⟨F, h4.below hb⟩, fun j hj => (hb.cell (p := ⟨g, j, none⟩) h7).trans (h5 j hj), by omega, by omega⟩
theorem PFin.drewN (h : PFin w l c p g T V) (n : Nat) : PFin w l c p g T (V.drewN n) :=
  h.keep (((Fr.refl (fun _ => False) V).drewN n).below (Nat.le_refl _) (by simp))

/-- What is there of a line. -/
theorem PFin.line (h : PFin w l c p g T V) (line : Int) (hT : T.length ≤ 200) : ∃ (sv kv : Int) (inb : Bool),
    (Calls Try.prog 13 #[.pointer (some ⟨p, 0, none⟩), .int .i64 line] V fun e w' => e = .returned (.tuple #[.int .i64 sv, .bool inb]) ∧ V = w') ∧
    (Calls Try.prog 14 #[.pointer (some ⟨p, 0, none⟩), .int .i64 line] V fun e w' => e = .returned (.tuple #[.int .i64 kv, .bool inb]) ∧ V = w') ∧
    ((inb = true ∧ ∃ m A S : Nat, line = m ∧ m < (st T).length ∧ sv = A ∧ kv = S ∧ A + S ≤ 200 ∧ at1 T m = A ∧ at1 T (m + 1) = A + S + 1) ∨ (inb = false ∧ ¬ (0 ≤ line ∧ line < (st T).length) ∧ sv = 0 ∧ kv = 0)) := by
  obtain ⟨F, hi⟩ := h.2.2.2.1
  by_cases hl : 0 ≤ line ∧ line < (st T).length
  · obtain ⟨m, rfl⟩ : ∃ m : Nat, line = m := ⟨line.toNat, by omega⟩
    have hsb := sz_eq T m (by omega)
    exact ⟨_, _, true, hi.start m (by omega) (by omega), hi.size m (by omega) (by omega), .inl ⟨rfl, m, _, _, rfl, by omega, rfl, rfl, by omega, at1_lt T m (by omega), at1_next T m (by omega)⟩⟩
  · exact ⟨_, _, false, hi.startOut line hl, hi.sizeOut line hl, .inr ⟨rfl, hl, rfl, rfl⟩⟩

/-- What is there of a place. -/
theorem PFin.place (h : PFin w l c p g T V) (hT : T.length ≤ 200) : ∃ (ov : Int) (thr : Bool),
    (Calls Try.prog 15 #[.pointer (some ⟨p, 0, none⟩), .agg #[.int .i64 l, .int .i64 c]] V fun e w' => e = .returned (.tuple #[.int .i64 ov, .bool thr]) ∧ Below V.heap.size V w') ∧
    ((thr = true ∧ ∃ m d A S : Nat, l = m ∧ c = d ∧ m < (st T).length ∧ d ≤ S ∧ ov = (A : Int) + d ∧ A + S ≤ 200 ∧ at1 T m = A ∧ at1 T (m + 1) = A + S + 1) ∨
     (thr = false ∧ ov = 0 ∧ (l < 0 ∨ (0 ≤ l ∧ ¬ l < (st T).length) ∨ ∃ m A S : Nat, l = m ∧ m < (st T).length ∧ A + S ≤ 200 ∧ at1 T m = A ∧ at1 T (m + 1) = A + S + 1 ∧ (c < 0 ∨ (0 ≤ c ∧ ¬ c ≤ S))))) := by
  obtain ⟨F, hi⟩ := h.2.2.2.1
  by_cases h0 : l < 0
  · exact ⟨0, false, hi.offOut l c (fun k hk _ _ => by omega) (by omega), .inr ⟨rfl, rfl, .inl h0⟩⟩
  · by_cases h1 : l < (st T).length
    · obtain ⟨m, rfl⟩ : ∃ m : Nat, l = m := ⟨l.toNat, by omega⟩
      have hm : m < (st T).length := by omega
      have hsb := sz_eq T m hm
      by_cases h2 : c < 0
      · exact ⟨0, false, hi.offOut _ c (fun k hk _ hc => by omega) (by omega), .inr ⟨rfl, rfl, .inr (.inr ⟨m, _, _, rfl, hm, by omega, at1_lt T m hm, at1_next T m hm, .inl h2⟩)⟩⟩
      · by_cases h3 : c ≤ sz T m
        · obtain ⟨d, rfl⟩ : ∃ d : Nat, c = d := ⟨c.toNat, by omega⟩
          have := hi.off m d hm (by omega) (by omega)
          rw [Int.natCast_add] at this
          exact ⟨_, true, this, .inl ⟨rfl, m, d, _, _, rfl, rfl, hm, by omega, rfl, by omega, at1_lt T m hm, at1_next T m hm⟩⟩
        · exact ⟨0, false, hi.offOut _ c (fun k hk _ hc => by obtain rfl : k = m := by omega
                                                              exact h3) (by omega), .inr ⟨rfl, rfl, .inr (.inr ⟨m, _, _, rfl, hm, by omega, at1_lt T m hm, at1_next T m hm, .inr ⟨by omega, h3⟩⟩)⟩⟩
    · exact ⟨0, false, hi.offOut l c (fun k hk hk2 _ => by omega) (by omega), .inr ⟨rfl, rfl, .inr (.inl ⟨by omega, h1⟩)⟩⟩

/-- At. -/
theorem PFin.spot (h : PFin w l c p g T V) (off : Int) (hT : T.length ≤ 200) : ∃ (x y : Int) (b : Bool),
    (Calls Try.prog 16 #[.pointer (some ⟨p, 0, none⟩), .int .i64 off] V fun e w' => e = .returned (.tuple #[.agg #[.int .i64 x, .int .i64 y], .bool b]) ∧ Below V.heap.size V w') ∧
    b = decide (0 ≤ off ∧ off ≤ T.length) := by
  obtain ⟨F, hi⟩ := h.2.2.2.1
  by_cases h0 : 0 ≤ off ∧ off ≤ T.length
  · obtain ⟨k, rfl⟩ : ∃ k : Nat, off = k := ⟨off.toNat, by omega⟩
    exact ⟨_, _, true, hi.at k (by omega) (by omega), (decide_eq_true h0).symm⟩
  · exact ⟨_, _, false, hi.atOut off h0 (by omega), (decide_eq_false h0).symm⟩

end Go.Proofs.Ytndfbjpgbpcimaa.LPlc
