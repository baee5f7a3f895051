/-
  What the functions of package vec do, at places: one contract a function.
-/
import Derived.Test.YtfclclnlmhbgiaaUp
import Derived.Test.YtfclclnlmhbgiaaProg
import Derived.WalkLawsBesides
import Derived.WalkSpells
import Derived.Outline
import Derived.Deep.DeepFit
import Derived.Deep.DeepMust
import Derived.Lib.Hide
set_option linter.unusedVariables false
set_option linter.unusedSimpArgs false
set_option maxRecDepth 100000
namespace Go.Proofs.Ytfclclnlmhbgiaa.VecQ
open Go Go.RowKit Go.Proofs.Ytfclclnlmhbgiaa.Vk Go.Proofs.Ytfclclnlmhbgiaa.Ps Go.Proofs.Ytfclclnlmhbgiaa.Ml

abbrev E : TypeId := 31
abbrev TV : TypeId := 63
theorem infoE : (Try.prog.info? E).map (fun i => (i.zero, i.size, i.bytes)) = some (some (.agg #[.int .i64 0, .int .i64 0]), 2, 16) := by kernel_rfl
theorem underS : Try.prog.underlying 27 = some (.slice E) := by kernel_rfl

theorem new_nil (w : World) :
    Calls Try.prog 18 #[.slice none 0 0] w fun e w' => e = .returned (.pointer (some ⟨w.heap.size, 0, none⟩)) ∧ w.alloc (.cells #[.slice none 0 0] TV) = w' := by
  obtain ⟨i0, hi, hz0, hz1, hz2⟩ := info_parts infoE
  go_enter Try.func18, Try.ntmps18
  go_wp2
  go_ret
  exact ⟨rfl, rfl⟩

theorem has_any (base p : Nat) (r : Option Nat) (n : Nat) (xs : List Value) (i : Int) (w : World) (h : IsVec w base TV E 2 p r n xs) :
    Calls Try.prog 30 #[.pointer (some ⟨p, 0, none⟩), .int .i64 i] w fun e w' => e = .returned (.bool (decide (0 ≤ i ∧ i < n))) ∧ w = w' := by
  obtain ⟨sa, sc, h1, h2, h3, h4, h5⟩ := h
  have hc := cell_of_row w p 0 _ _ _ h1
  simp at hc
  clear h1 h3 h4 h5
  by_cases hi : 0 ≤ i
  · go_enter Try.func30, Try.ntmps30
    go_wp2
    go_ret
    exact ⟨by simp [hi], rfl⟩
  · go_enter Try.func30, Try.ntmps30
    go_wp2
    go_ret
    exact ⟨by simp; omega, rfl⟩

theorem len_any (base p : Nat) (r : Option Nat) (n : Nat) (xs : List Value) (w : World) (h : IsVec w base TV E 2 p r n xs) :
    Calls Try.prog 22 #[.pointer (some ⟨p, 0, none⟩)] w fun e w' => e = .returned (.int .i64 n) ∧ w = w' := by
  obtain ⟨sa, sc, h1, h2, h3, h4, h5⟩ := h
  have hc := cell_of_row w p 0 _ _ _ h1
  simp at hc
  clear h1 h3 h4 h5
  go_enter Try.func22, Try.ntmps22
  go_wp2
  go_ret
  exact ⟨rfl, rfl⟩

/-- An owned row of places, where it has one. -/
theorem own_form {w : World} {base : Nat} {sa : Option Addr} {sc n : Nat} {xs : List Value} (h : w.ownsRow base E 2 (.slice sa n sc) n xs) (hn : 0 < n) : ∃ g cur, sa = some ⟨g, 0, none⟩ ∧ base ≤ g ∧ w.heap[g]? = some (.cells cur E (0, 0)) ∧ n ≤ sc ∧ sc ≤ maxLen ∧ cur.size = sc * 2 ∧ cur.toList.take (n * 2) = xs := by
  rcases h.2 with ⟨h, h0⟩ | ⟨g, cap, cur, h, h1, h2, h3, h4, h5, h6⟩
  · omega
  · simp only [Value.slice.injEq, true_and] at h
    obtain ⟨rfl, rfl⟩ := h
    exact ⟨g, cur, rfl, h1, h2, h3, h4, h5, h6⟩

theorem own_at {w : World} {base g n sc : Nat} {ps : List P2} (h : w.ownsRow base E 2 (.slice (some ⟨g, 0, none⟩) n sc) n (flat ps)) (k : Nat) (p : P2) (hk : ps[k]? = some p) :
    w.cell? ⟨g, k * 2, none⟩ = some (.int .i64 p.1) ∧ w.cell? ⟨g, k * 2 + 1, none⟩ = some (.int .i64 p.2) := by
  have hc := h.cells (g := g) rfl
  obtain ⟨h0, h1⟩ := flat_at ps k p hk
  exact ⟨by have := hc _ _ h0; rwa [Addr.add_lit, Nat.zero_add] at this, by have := hc _ _ h1; rwa [Addr.add_lit, Nat.zero_add] at this⟩

theorem at_in (base p : Nat) (r : Option Nat) (ps : List P2) (k : Nat) (q : P2) (w : World) (h : IsVec w base TV E 2 p r ps.length (flat ps)) (hn : ps.length ≤ 1000000) (hz : ps[k]? = some q) :
    Calls Try.prog 24 #[.pointer (some ⟨p, 0, none⟩), .int .i64 k] w fun e w' => e = .returned (.tuple #[pv q, .bool true]) ∧ Below w.heap.size w w' := by
  have H := h.fr ((Fr.refl (fun _ => False) w).alloc (.cells #[.int .i64 0, .int .i64 0] E)) (by simp) (by simp)
  obtain ⟨hk, -⟩ := List.getElem?_eq_some_iff.1 hz
  obtain ⟨sa, sc, h1, h2, h3, h4, h5⟩ := h
  have hc := cell_of_row w p 0 _ _ _ h1
  simp at hc
  obtain ⟨g, cur, rfl, -, -, hsc1, hsc, -, -⟩ := own_form h3 (by omega)
  obtain ⟨c0, c1⟩ := own_at h3 k q hz
  unfold maxLen at hsc
  obtain ⟨b, s⟩ := q
  have hg := World.block_lt_of_cell? w _ c0
  have hp := World.block_lt_of_cell? w _ hc
  clear h1 h3 h4 h5 hz
  go_enter Try.func24, Try.ntmps24
  go_wp2_with (go_at_call 30; refine (has_any base p r ps.length (flat ps) k _ H).mono ?_; rintro e w' ⟨rfl, rfl⟩)
  exact bodyPost_ret (v := .tuple #[.agg #[.int .i64 b, .int .i64 s], .bool true]) (by simp [results, Try.results24, go_sem]) rfl ⟨rfl, (Below.refl _ _).alloc (Nat.le_refl _) _⟩

end Go.Proofs.Ytfclclnlmhbgiaa.VecQ
