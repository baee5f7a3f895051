/-
  Package span: the part of a line that belongs to a range; Text.
-/
import Derived.Test.YtnngcminomooeaaSr
set_option linter.unusedVariables false
set_option linter.unusedSimpArgs false
set_option maxRecDepth 100000
namespace Go.Proofs.Ytnngcminomooeaa.So
open Go Go.RowKit Go.Proofs.Ytnngcminomooeaa.Vk Go.Proofs.Ytnngcminomooeaa.Str Go.Proofs.Ytnngcminomooeaa.Ln Go.Proofs.Ytnngcminomooeaa.Cl Go.Shelf
attribute [local go_sem] Oper.semAt_some

theorem frK {S : Nat → Prop} {B : Nat} {w : World} (hB : B ≤ w.heap.size) : ∀ (V : World) (l : Nat) (o o' : Obj), w.heap.size ≤ l → V.heap[l]? = some o → o.isCells = false → o.isWalk = false → Fr (fun k => S k ∨ B ≤ k) V (V.putObj l o') :=
  fun V l o o' hl ho _ _ => Fr.grown (Fr.refl _ V) (grownBy_putObj' V l o') (fun k e _ => by cases e; exact .inr (by omega))
theorem own_below {α : Type} {B B0 : Nat} {w : World} (h1 : B0 ≤ w.heap.size) (hB : B0 ≤ B) : OwnFrom B (fun (_ : List α) (V : World) => Below B0 w V) :=
  fun s A B' row hs hg hr => hs.grown hg (by have := hs.size; omega) (fun k e => by have := (hr k e).1; omega)

/-- Where the part of line i (of z bytes) begins, and where it ends. -/
def colF (k fl fc : Int) (i z : Nat) : Int := if k = 0 then (if (i : Int) = fl then fc else 0) else if k = 2 then min fc z else 0
def colT (k tl tc : Int) (i z : Nat) : Int := if k = 0 then (if (i : Int) = tl then tc else z) else if k = 2 then min tc ((z : Int) - 1) + 1 else z
theorem ret_two {a b c d : Int} (h : a = b) (k : c = d) : Ending.returned (.tuple #[.int .i64 a, .int .i64 c]) = Ending.returned (.tuple #[.int .i64 b, .int .i64 d]) := by rw [h, k]

theorem ins_bound {ls : List ByteArray} {l c : Int} (h0 : 0 ≤ l) (h1 : l < ls.length) (h : ins ls l c = true) : 0 ≤ c ∧ c ≤ (lineAt ls l.toNat).size := by
  unfold ins at h
  simp only [Bool.and_eq_true, decide_eq_true_eq] at h
  obtain ⟨h2, h3⟩ := h
  have e : clL ls l = l.toNat := by omega
  unfold clC at h3
  rw [e] at h3
  unfold top at h3
  rw [if_pos rfl] at h3
  have := cl_lt (n := (lineAt ls l.toNat).size + 1) c (by omega)
  omega

/-- The part of a line that belongs to a range. -/
def part (k fl fc tl tc : Int) (x : Nat × ByteArray) : ByteArray := x.2.extract (colF k fl fc x.1 x.2.size).toNat (colT k tl tc x.1 x.2.size).toNat
/-- The text of a range. -/
def txt (ls : List ByteArray) (k fl fc tl tc : Int) : List ByteArray := (enr ls fl.toNat (tl - fl + 1).toNat).map (part k fl fc tl tc)
theorem txt_length (ls : List ByteArray) (k fl fc tl tc : Int) : (txt ls k fl fc tl tc).length = (tl - fl + 1).toNat := by unfold txt; rw [List.length_map, enr_length]

theorem vld_lines {ls : List ByteArray} {k fl fc tl tc : Int} (h : vld ls k fl fc tl tc = true) : 0 ≤ fl ∧ fl ≤ tl ∧ tl < ls.length ∧ (k = 2 → 0 ≤ tc) := by
  unfold vld at h
  simp only [Bool.and_eq_true, decide_eq_true_eq] at h
  obtain ⟨h1, h2⟩ := h
  refine ⟨h1.1, h1.2.1, h1.2.2, fun k2 => ?_⟩
  subst k2
  rw [if_neg (by decide), if_neg (by decide), if_pos rfl] at h2
  simp only [decide_eq_true_eq] at h2
  omega
theorem vld_cols {ls : List ByteArray} {k fl fc tl tc : Int} (h : vld ls k fl fc tl tc = true) (i : Nat) (h1 : fl ≤ i) (h2 : (i : Int) ≤ tl) :
    0 ≤ colF k fl fc i (lineAt ls i).size ∧ colF k fl fc i (lineAt ls i).size ≤ colT k tl tc i (lineAt ls i).size ∧ colT k tl tc i (lineAt ls i).size ≤ (lineAt ls i).size := by
  have hl := vld_lines h
  unfold vld at h
  simp only [Bool.and_eq_true, decide_eq_true_eq] at h
  obtain ⟨_, h3⟩ := h
  unfold colF colT
  by_cases k0 : k = 0
  · rw [if_pos k0] at h3
    rw [if_pos k0, if_pos k0]
    simp only [Bool.and_eq_true, Bool.not_eq_true'] at h3
    obtain ⟨i1, i2, i3⟩ := h3
    have b1 := ins_bound hl.1 (by omega) i1
    have b2 := ins_bound (by omega) hl.2.2.1 i2
    unfold lt at i3
    rw [decide_eq_false_iff_not] at i3
    by_cases e1 : (i : Int) = fl
    · rw [if_pos e1]
      subst e1
      rw [Int.toNat_natCast] at b1
      by_cases e2 : (i : Int) = tl
      · rw [if_pos e2]
        subst e2
        rw [Int.toNat_natCast] at b2
        omega
      · rw [if_neg e2]
        omega
    · rw [if_neg e1]
      by_cases e2 : (i : Int) = tl
      · rw [if_pos e2]
        subst e2
        rw [Int.toNat_natCast] at b2
        omega
      · rw [if_neg e2]
        omega
  · rw [if_neg k0, if_neg k0]
    rw [if_neg k0] at h3
    by_cases k1 : k = 1
    · subst k1
      rw [if_neg (by decide), if_neg (by decide)]
      omega
    · rw [if_neg k1] at h3
      by_cases k2 : k = 2
      · rw [if_pos k2] at h3
        rw [if_pos k2, if_pos k2]
        simp only [decide_eq_true_eq] at h3
        omega
      · rw [if_neg k2] at h3
        cases h3

/-- What has been gathered. -/
def Got (M D : Nat) (xs : List Value) (V : World) : Prop :=
  ∃ b cc, V.heap[M]? = some (.cells #[.slice b xs.length cc] 22 (0, 0)) ∧ V.ownsRow D ES 1 (.slice b xs.length cc) xs.length xs
theorem own_row_cells {w : World} {base : Nat} {e : TypeId} {size : Nat} {v : Value} {n : Nat} {xs : List Value} (h : w.ownsRow base e size v n xs) (g : Nat) (hg : v.ownBlock = some g) : ∃ cs, w.heap[g]? = some (.cells cs e (0, 0)) := by
  rcases h.2 with ⟨rfl, _⟩ | ⟨g', cap, cur, rfl, _, hh, _⟩
  · cases hg
  · simp only [Value.ownBlock, Option.some.injEq] at hg
    subst hg
    exact ⟨cur, hh⟩
theorem got_own {α : Type} {B M D : Nat} (hM : M < B) (G : List α → List Value) : OwnFrom B (fun pre (V : World) => Got M D (G pre) V) := by
  rintro s A A' row ⟨b, cc, h1, h2⟩ hg hr
  refine ⟨b, cc, (hg.block _ (Array.getElem?_eq_some_iff.1 h1).1 (fun e => by have := (hr _ e.symm).1; omega)).trans h1, h2.kept hg ?_⟩
  cases hb : (Value.slice b (G s).length cc).ownBlock with
  | none => exact .inl rfl
  | some g =>
    refine .inr fun e => ?_
    obtain ⟨cs, hcs⟩ := own_row_cells h2 g hb
    obtain ⟨_, o, ho, hoc⟩ := hr g e.symm
    rw [hcs] at ho
    cases ho
    cases hoc

end Go.Proofs.Ytnngcminomooeaa.So
