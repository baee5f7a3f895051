/-
  Indexes of lines: what an index is in memory; what its functions do that only read, but the search.
-/
import Derived.Test.YtfllgmgipmmpkaaGreatDoorDelI
import Derived.Test.YtfllgmgipmmpkaaGreatDoorRf
import Derived.Test.YtfllgmgipmmpkaaGreatDoorLm
import Derived.RegionTactic
import Derived.BigQuiet
import Derived.Deep.QuietTactic
import Derived.IntWalk
set_option linter.unusedVariables false
set_option linter.unusedSimpArgs false
set_option maxRecDepth 100000
namespace Go.Proofs.YtfllgmgipmmpkaaGreatDoor.Lx
open Go Go.RowKit Go.Proofs.YtfllgmgipmmpkaaGreatDoor.Vk Go.Proofs.YtfllgmgipmmpkaaGreatDoor.Lm
open VecI (E)

abbrev TI : TypeId := 95
abbrev TV : TypeId := 113

def iv (zs : List Int) : List Value := zs.map (.int .i64)
theorem iv_one (zs : List Int) : ∀ u ∈ iv zs, u.oneCell' = true := by
  intro u hu
  obtain ⟨_, _, rfl⟩ := List.mem_map.1 hu
  rfl

/-- An index at block p: its list at block q (its row r) holds zs, its size is size; all lie from base on. -/
structure Ix (w : World) (base p q : Nat) (r : Option Nat) (zs : List Int) (size : Int) : Prop where
  head : w.heap[p]? = some (.cells #[.pointer (some ⟨q, 0, none⟩), .int .i64 size] TI (0, 0))
  bp : base ≤ p
  vec : IsVec w base TV E 1 q r zs.length (iv zs)
  qp : q ≠ p
  rp : r ≠ some p

/-- The blocks that are the index's. -/
def foot (p q : Nat) (r : Option Nat) (k : Nat) : Prop := k = p ∨ k = q ∨ r = some k

variable {w w' : World} {base p q : Nat} {r : Option Nat} {zs : List Int} {size : Int}

theorem Ix.lt (h : Ix w base p q r zs size) : p < w.heap.size := (Array.getElem?_eq_some_iff.1 h.head).1
theorem Ix.footLt (h : Ix w base p q r zs size) (k : Nat) (hk : foot p q r k) : base ≤ k ∧ k < w.heap.size := by
  rcases hk with rfl | rfl | hk
  · exact ⟨h.bp, h.lt⟩
  · exact h.vec.lt
  · exact h.vec.rowLt k hk
theorem Ix.cells (h : Ix w base p q r zs size) : w.cell? ⟨p, 0, none⟩ = some (.pointer (some ⟨q, 0, none⟩)) ∧ w.cell? ⟨p, 1, none⟩ = some (.int .i64 size) := by
  have := h.head
  exact ⟨(cell_of_row _ _ 0 _ _ _ this).trans (by simp), (cell_of_row _ _ 1 _ _ _ this).trans (by simp)⟩
theorem Ix.fr {S : Nat → Prop} (h : Ix w base p q r zs size) (hf : Fr S w w') (hs : ∀ k, foot p q r k → ¬ S k) : Ix w' base p q r zs size :=
  ⟨(hf.block p h.lt (hs p (.inl rfl))).trans h.head, h.bp, h.vec.fr hf (hs q (.inr (.inl rfl))) (fun k hk => hs k (.inr (.inr hk))), h.qp, h.rp⟩
theorem Ix.below (h : Ix w base p q r zs size) (hb : Below w.heap.size w w') : Ix w' base p q r zs size := h.fr (Fr.ofBelow hb (fun _ => False)) (by simp)
theorem Ix.mono {base' : Nat} (h : Ix w base p q r zs size) (hb : base' ≤ base) : Ix w base' p q r zs size := ⟨h.head, Nat.le_trans hb h.bp, h.vec.mono hb, h.qp, h.rp⟩
/-- The list turned, the struct as it was. -/
theorem Ix.turn {r' : Option Nat} {zs' : List Int} (h : Ix w base p q r zs size) (hf : Fr (fun b => b = q ∨ r = some b) w w') (hv : IsVec w' base TV E 1 q r' zs'.length (iv zs')) (hr : r' = r ∨ ∃ g, r' = some g ∧ w.heap.size ≤ g) : Ix w' base p q r' zs' size := by
  refine ⟨(hf.block p h.lt (fun e => e.elim (fun e => h.qp e.symm) h.rp)).trans h.head, h.bp, hv, h.qp, ?_⟩
  rcases hr with rfl | ⟨g, rfl, hg⟩
  · exact h.rp
  · have := h.lt; simp; omega

theorem lines_any (h : Ix w base p q r zs size) : Calls Tryz.prog 40 #[.pointer (some ⟨p, 0, none⟩)] w fun e w' => e = .returned (.int .i64 zs.length) ∧ w = w' := by
  obtain ⟨k0, k1⟩ := h.cells
  go_enter Tryz.func40, Tryz.ntmps40
  go_wp2_with (go_at_call 63; refine (VecI.len_any base q r zs.length _ _ h.vec).mono ?_; rintro e w' ⟨rfl, rfl⟩)
  go_ret
  exact ⟨rfl, rfl⟩

theorem iv_at (zs : List Int) (k : Nat) (hk : k < zs.length) : (iv zs)[k]? = some (.int .i64 (zs.getD k 0)) := by
  rw [iv, List.getElem?_map, List.getD_eq_getElem?_getD, List.getElem?_eq_getElem hk]; rfl

theorem start_in (h : Ix w base p q r zs size) (k : Nat) (hk : k < zs.length) (hn : zs.length ≤ 1000000) : Calls Tryz.prog 30 #[.pointer (some ⟨p, 0, none⟩), .int .i64 k] w fun e w' => e = .returned (.tuple #[.int .i64 (zs.getD k 0), .bool true]) ∧ w = w' := by
  obtain ⟨k0, k1⟩ := h.cells
  have hat := VecI.at_in base q r zs.length _ k _ w h.vec hk hn (iv_at zs k hk)
  generalize zs.getD k 0 = z at hat ⊢
  go_enter Tryz.func30, Tryz.ntmps30
  go_wp2_with (go_at_call 52; refine hat.mono ?_; rintro e w' ⟨rfl, rfl⟩)
  go_ret2
  exact ⟨rfl, rfl⟩

theorem start_out (h : Ix w base p q r zs size) (i : Int) (hi : ¬ (0 ≤ i ∧ i < zs.length)) : Calls Tryz.prog 30 #[.pointer (some ⟨p, 0, none⟩), .int .i64 i] w fun e w' => e = .returned (.tuple #[.int .i64 0, .bool false]) ∧ w = w' := by
  obtain ⟨k0, k1⟩ := h.cells
  have hat := VecI.at_out base q r zs.length _ i w h.vec hi
  go_enter Tryz.func30, Tryz.ntmps30
  go_wp2_with (go_at_call 52; refine hat.mono ?_; rintro e w' ⟨rfl, rfl⟩)
  go_ret2
  exact ⟨rfl, rfl⟩

theorem has_any (h : Ix w base p q r zs size) (off n : Int) (hs0 : 0 ≤ size) (hs : size ≤ 9223372036854775807) :
    Calls Tryz.prog 69 #[.pointer (some ⟨p, 0, none⟩), .int .i64 off, .int .i64 n] w fun e w' => e = .returned (.bool (decide (0 ≤ off ∧ off ≤ size ∧ 0 ≤ n ∧ n ≤ size - off))) ∧ w = w' := by
  obtain ⟨k0, k1⟩ := h.cells
  by_cases h0 : 0 ≤ off
  · by_cases h1 : off ≤ size
    · by_cases h2 : 0 ≤ n
      · have hw : IntKind.i64.wrap (size - off) = size - off := by rw [IntKind.wrap_i64]; omega
        go_enter Tryz.func69, Tryz.ntmps69
        go_wp2
        go_ret
        exact ⟨by simp [h0, h1, h2], rfl⟩
      · go_enter Tryz.func69, Tryz.ntmps69
        go_wp2
        go_ret
        exact ⟨by simp; intros; omega, rfl⟩
    · go_enter Tryz.func69, Tryz.ntmps69
      go_wp2
      go_ret
      exact ⟨by simp; intros; omega, rfl⟩
  · go_enter Tryz.func69, Tryz.ntmps69
    go_wp2
    go_ret
    exact ⟨by simp; intros; omega, rfl⟩

/-- What Size answers. -/
def szOf (zs : List Int) (size : Int) (k : Nat) : Int := if k + 1 < zs.length then zs.getD (k + 1) 0 - 1 - zs.getD k 0 else size - zs.getD k 0

theorem size_in (h : Ix w base p q r zs size) (k : Nat) (hk : k < zs.length) (hn : zs.length ≤ 1000000) (hb : ∀ j, 0 ≤ zs.getD j 0 ∧ zs.getD j 0 ≤ 1000000000) (hs0 : 0 ≤ size) (hs : size ≤ 1000000000) :
    Calls Tryz.prog 38 #[.pointer (some ⟨p, 0, none⟩), .int .i64 k] w fun e w' => e = .returned (.tuple #[.int .i64 (szOf zs size k), .bool true]) ∧ w = w' := by
  obtain ⟨k0, k1⟩ := h.cells
  have hst := start_in h k hk hn
  have h1 := hb k
  have h2 := hb (k + 1)
  unfold szOf
  have hw3 : IntKind.i64.wrap ((k : Int) + 1) = (k : Int) + 1 := by rw [IntKind.wrap_i64]; omega
  by_cases hl : k + 1 < zs.length
  · have hst2 := start_in h (k + 1) hl hn
    rw [if_pos hl]
    generalize zs.getD k 0 = a at *
    generalize zs.getD (k + 1) 0 = b at *
    rw [show ((k + 1 : Nat) : Int) = (k : Int) + 1 by omega] at hst2
    have hw1 : IntKind.i64.wrap (b - 1) = b - 1 := by rw [IntKind.wrap_i64]; omega
    have hw2 : IntKind.i64.wrap (b - 1 - a) = b - 1 - a := by rw [IntKind.wrap_i64]; omega
    go_enter Tryz.func38, Tryz.ntmps38
    go_wp2_with fail
    refine hst.mono ?_
    rintro e w' ⟨rfl, rfl⟩
    go_wp2_with fail
    refine hst2.mono ?_
    rintro e w' ⟨rfl, rfl⟩
    go_wp2
    go_ret2
    exact ⟨rfl, rfl⟩
  · have hst2 := start_out h ((k : Int) + 1) (by omega)
    rw [if_neg hl]
    generalize zs.getD k 0 = a at *
    have hw1 : IntKind.i64.wrap (size - a) = size - a := by rw [IntKind.wrap_i64]; omega
    go_enter Tryz.func38, Tryz.ntmps38
    go_wp2_with fail
    refine hst.mono ?_
    rintro e w' ⟨rfl, rfl⟩
    go_wp2_with fail
    refine hst2.mono ?_
    rintro e w' ⟨rfl, rfl⟩
    go_wp2
    go_ret2
    exact ⟨rfl, rfl⟩

theorem size_out (h : Ix w base p q r zs size) (i : Int) (hi : ¬ (0 ≤ i ∧ i < zs.length)) : Calls Tryz.prog 38 #[.pointer (some ⟨p, 0, none⟩), .int .i64 i] w fun e w' => e = .returned (.tuple #[.int .i64 0, .bool false]) ∧ w = w' := by
  have hst := start_out h i hi
  go_enter Tryz.func38, Tryz.ntmps38
  go_wp2_with (go_at_call 30; refine hst.mono ?_; rintro e w' ⟨rfl, rfl⟩)
  go_ret2
  exact ⟨rfl, rfl⟩

end Go.Proofs.YtfllgmgipmmpkaaGreatDoor.Lx
