/-
  What the functions of package vec do, at pieces: one contract a function.
-/
import Derived.Test.YtfllgmgipmmpkaaGreatDoorPk
import Derived.Test.YtfllgmgipmmpkaaGreatDoorProg
import Derived.WalkLawsBesides
import Derived.WalkSpells
import Derived.Outline
import Derived.Deep.DeepFit
import Derived.Deep.DeepMust
import Derived.Lib.Hide
set_option linter.unusedVariables false
set_option linter.unusedSimpArgs false
set_option maxRecDepth 100000
namespace Go.Proofs.YtfllgmgipmmpkaaGreatDoor.VecP
open Go Go.RowKit Go.Proofs.YtfllgmgipmmpkaaGreatDoor.Vk Go.Proofs.YtfllgmgipmmpkaaGreatDoor.Tb

abbrev E : TypeId := 88
abbrev TV : TypeId := 109
theorem infoE : (Tryz.prog.info? E).map (fun i => (i.zero, i.size, i.bytes)) = some (some (.agg #[.int .i64 0, .int .i64 0, .int .i64 0]), 3, 24) := by kernel_rfl
theorem underS : Tryz.prog.underlying 107 = some (.slice E) := by kernel_rfl

theorem new_nil (w : World) :
    Calls Tryz.prog 48 #[.slice none 0 0] w fun e w' => e = .returned (.pointer (some ⟨w.heap.size, 0, none⟩)) ∧ w.alloc (.cells #[.slice none 0 0] TV) = w' := by
  obtain ⟨i0, hi, hz0, hz1, hz2⟩ := info_parts infoE
  go_enter Tryz.func48, Tryz.ntmps48
  go_wp2
  go_ret
  exact ⟨rfl, rfl⟩

theorem has_any (base p : Nat) (r : Option Nat) (n : Nat) (xs : List Value) (i : Int) (w : World) (h : IsVec w base TV E 3 p r n xs) :
    Calls Tryz.prog 94 #[.pointer (some ⟨p, 0, none⟩), .int .i64 i] w fun e w' => e = .returned (.bool (decide (0 ≤ i ∧ i < n))) ∧ w = w' := by
  obtain ⟨sa, sc, h1, h2, h3, h4, h5⟩ := h
  have hc := cell_of_row w p 0 _ _ _ h1
  simp at hc
  clear h1 h3 h4 h5
  by_cases hi : 0 ≤ i
  · go_enter Tryz.func94, Tryz.ntmps94
    go_wp2
    go_ret
    exact ⟨by simp [hi], rfl⟩
  · go_enter Tryz.func94, Tryz.ntmps94
    go_wp2
    go_ret
    exact ⟨by simp; omega, rfl⟩

theorem len_any (base p : Nat) (r : Option Nat) (n : Nat) (xs : List Value) (w : World) (h : IsVec w base TV E 3 p r n xs) :
    Calls Tryz.prog 64 #[.pointer (some ⟨p, 0, none⟩)] w fun e w' => e = .returned (.int .i64 n) ∧ w = w' := by
  obtain ⟨sa, sc, h1, h2, h3, h4, h5⟩ := h
  have hc := cell_of_row w p 0 _ _ _ h1
  simp at hc
  clear h1 h3 h4 h5
  go_enter Tryz.func64, Tryz.ntmps64
  go_wp2
  go_ret
  exact ⟨rfl, rfl⟩

/-- An owned row of pieces, where it has one. -/
theorem own_form {w : World} {base : Nat} {sa : Option Addr} {sc n : Nat} {xs : List Value} (h : w.ownsRow base E 3 (.slice sa n sc) n xs) (hn : 0 < n) : ∃ g cur, sa = some ⟨g, 0, none⟩ ∧ base ≤ g ∧ w.heap[g]? = some (.cells cur E (0, 0)) ∧ n ≤ sc ∧ sc ≤ maxLen ∧ cur.size = sc * 3 ∧ cur.toList.take (n * 3) = xs := by
  rcases h.2 with ⟨h, h0⟩ | ⟨g, cap, cur, h, h1, h2, h3, h4, h5, h6⟩
  · omega
  · simp only [Value.slice.injEq, true_and] at h
    obtain ⟨rfl, rfl⟩ := h
    exact ⟨g, cur, rfl, h1, h2, h3, h4, h5, h6⟩

theorem own_at {w : World} {base g n sc : Nat} {ps : List Pc} (h : w.ownsRow base E 3 (.slice (some ⟨g, 0, none⟩) n sc) n (flat ps)) (k : Nat) (p : Pc) (hk : ps[k]? = some p) :
    w.cell? ⟨g, k * 3, none⟩ = some (.int .i64 p.b) ∧ w.cell? ⟨g, k * 3 + 1, none⟩ = some (.int .i64 p.s) ∧ w.cell? ⟨g, k * 3 + 2, none⟩ = some (.int .i64 p.z) := by
  have hc := h.cells (g := g) rfl
  obtain ⟨h0, h1, h2⟩ := flat_at ps k p hk
  exact ⟨by have := hc _ _ h0; rwa [Addr.add_lit, Nat.zero_add] at this, by have := hc _ _ h1; rwa [Addr.add_lit, Nat.zero_add] at this, by have := hc _ _ h2; rwa [Addr.add_lit, Nat.zero_add] at this⟩

theorem at_in (base p : Nat) (r : Option Nat) (ps : List Pc) (k : Nat) (q : Pc) (w : World) (h : IsVec w base TV E 3 p r ps.length (flat ps)) (hn : ps.length ≤ 1000000) (hz : ps[k]? = some q) :
    Calls Tryz.prog 101 #[.pointer (some ⟨p, 0, none⟩), .int .i64 k] w fun e w' => e = .returned (.tuple #[q.val, .bool true]) ∧ Below w.heap.size w w' := by
  have H := h.fr ((Fr.refl (fun _ => False) w).alloc (.cells #[.int .i64 0, .int .i64 0, .int .i64 0] E)) (by simp) (by simp)
  obtain ⟨hk, -⟩ := List.getElem?_eq_some_iff.1 hz
  obtain ⟨sa, sc, h1, h2, h3, h4, h5⟩ := h
  have hc := cell_of_row w p 0 _ _ _ h1
  simp at hc
  obtain ⟨g, cur, rfl, -, -, hsc1, hsc, -, -⟩ := own_form h3 (by omega)
  obtain ⟨c0, c1, c2⟩ := own_at h3 k q hz
  unfold maxLen at hsc
  obtain ⟨b, s, z⟩ := q
  have hg := World.block_lt_of_cell? w _ c0
  have hp := World.block_lt_of_cell? w _ hc
  clear h1 h3 h4 h5 hz
  go_enter Tryz.func101, Tryz.ntmps101
  go_wp2_with (go_at_call 94; refine (has_any base p r ps.length (flat ps) k _ H).mono ?_; rintro e w' ⟨rfl, rfl⟩)
  exact bodyPost_ret (v := .tuple #[.agg #[.int .i64 b, .int .i64 s, .int .i64 z], .bool true]) (by simp [results, Tryz.results101, go_sem]) rfl ⟨rfl, (Below.refl _ _).alloc (Nat.le_refl _) _⟩

theorem set_in (base p : Nat) (r : Option Nat) (ps : List Pc) (k : Nat) (q : Pc) (w : World) (h : IsVec w base TV E 3 p r ps.length (flat ps)) (hn : ps.length ≤ 1000000) (hk : k < ps.length) :
    Calls Tryz.prog 93 #[.pointer (some ⟨p, 0, none⟩), .int .i64 k, q.val] w fun e w' => e = .returned (.bool true) ∧ IsVec w' base TV E 3 p r (ps.set k q).length (flat (ps.set k q)) ∧ Fr (fun b => r = some b) w w' := by
  have H := h.fr ((Fr.refl (fun _ => False) w).alloc (.cells #[.int .i64 q.b, .int .i64 q.s, .int .i64 q.z] E)) (by simp) (by simp)
  have HH := Lib.hid h
  obtain ⟨sa, sc, h1, h2, h3, h4, h5⟩ := h
  have hc := cell_of_row w p 0 _ _ _ h1
  simp at hc
  obtain ⟨g, cur, rfl, hbg, hgg, hsc1, hsc, hcs, htk⟩ := own_form h3 (by omega)
  obtain ⟨c0, c1, c2⟩ := own_at h3 k ps[k] (List.getElem?_eq_getElem hk)
  have f0 : w.frozen? ⟨g, k * 3, none⟩ = false := h3.frozenAt _
  have f1 : w.frozen? ⟨g, k * 3 + 1, none⟩ = false := h3.frozenAt _
  have f2 : w.frozen? ⟨g, k * 3 + 2, none⟩ = false := h3.frozenAt _
  unfold maxLen at hsc
  obtain ⟨b, s, z⟩ := q
  have hg := World.block_lt_of_cell? w _ c0
  have hp := World.block_lt_of_cell? w _ hc
  have HO : Hid (w.heap[g]? = some (.cells cur E (0, 0)) ∧ cur.size = sc * 3 ∧ cur.toList.take (ps.length * 3) = flat ps) := ⟨hgg, hcs, htk⟩
  have H1 := Lib.hid h1
  have H4 := Lib.hid h4
  have H5 := Lib.hid h5
  clear h1 h3 h4 h5 hgg hcs htk
  go_enter Tryz.func93, Tryz.ntmps93
  go_wp2_with (go_at_call 94; refine (has_any base p r ps.length (flat ps) k _ H).mono ?_; rintro e w' ⟨rfl, rfl⟩)
  go_region
  go_wp2
  go_ret
  have hrow : w.ownsRow base E 3 (.slice (some ⟨g, 0, none⟩) ps.length sc) ps.length (flat ps) := ⟨flat_length ps, .inr ⟨g, sc, cur, rfl, hbg, HO.out.1, hsc1, by simpa [maxLen] using hsc, HO.out.2.1, HO.out.2.2⟩⟩
  have hset := own_cells_set hrow (k * 3) (Pc.cells ⟨b, s, z⟩) (by simp [Pc.cells]; omega)
  have hfl := flat_set ps k ⟨b, s, z⟩ hk
  rw [show (k + 1) * 3 = k * 3 + (Pc.cells ⟨b, s, z⟩).length by simp [Pc.cells]; omega] at hfl
  rw [← hfl] at hset
  have hfr : Fr (fun b => r = some b) w (w.setCells g (k * 3) (Pc.cells ⟨b, s, z⟩)) := (Fr.refl _ w).grown (grownBy_setCells w g _ _) (fun j hj _ => by rw [← H4.out, ← hj]; rfl)
  have hfr2 := (hfr.alloc (.cells #[.int .i64 b, .int .i64 s, .int .i64 z] E)).drew
  rw [List.length_set]
  exact ⟨rfl, ⟨_, sc, (hfr2.block p hp H5.out).trans H1.out, h2, hset.alloc _, H4.out, H5.out⟩, hfr2⟩
end Go.Proofs.YtfllgmgipmmpkaaGreatDoor.VecP
