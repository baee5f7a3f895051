/-
  The bytes of a piece.
-/
import Derived.Test.YtfllgmgipmmpkaaGreatDoorTabDel
import Derived.Laws.IdiomStrings
set_option linter.unusedVariables false
set_option linter.unusedSimpArgs false
set_option maxRecDepth 100000
namespace Go.Proofs.YtfllgmgipmmpkaaGreatDoor.Tb
open Go Go.RowKit Go.Proofs.YtfllgmgipmmpkaaGreatDoor.Vk Go.Shelf
open VecP (E TV)

theorem own_src {w : World} {base : Nat} {b : Option Addr} {c : Nat} {l : List UInt8} (h : w.ownsRow base TU 1 (.slice b l.length c) l.length (bcells l)) (s z : Nat) (hz : 0 < z) (hs : s + z ≤ l.length) :
    ∃ g, b = some ⟨g, 0, none⟩ ∧ s + z ≤ c ∧ c ≤ maxLen ∧ g < w.heap.size ∧ SrcV w 1 (.slice (some ⟨g, s, none⟩) z (c - s)) z (bcells ((l.drop s).take z)) := by
  rcases h.2 with ⟨hv, h0⟩ | ⟨g, cap, cur, hv, hb, hg, hnc, hm, hcs, htk⟩
  · omega
  · simp only [Value.slice.injEq, true_and] at hv
    obtain ⟨rfl, rfl⟩ := hv
    refine ⟨g, rfl, by omega, hm, (Array.getElem?_eq_some_iff.1 hg).1, by simp [bcells]; omega, bcells_one _, by simp only [maxLen] at hm ⊢; omega, .inr ⟨g, s, c - s, rfl, by omega, by simp only [maxLen] at hm ⊢; omega, fun j u hj => ?_⟩⟩
    have hc := h.cells (g := g) rfl
    have e : (bcells l)[s + j]? = some u := by
      unfold bcells at hj ⊢
      rw [List.getElem?_map, List.getElem?_take] at hj
      split at hj
      · rw [List.getElem?_drop] at hj; rw [List.getElem?_map]; exact hj
      · cases hj
    have := hc _ _ e
    rwa [Addr.add_lit, Nat.zero_add] at this

/-- string(b). -/
theorem conv_src (W : World) (a : Addr) (z c : Nat) (l : List UInt8) (h : SrcV W 1 (.slice (some a) z c) z (bcells l)) : (convert 37 9 (.slice (some a) z c)).run Tryz.prog W = .ok (.string ⟨l.toArray⟩) W := by
  have hl : l.length = z := by have := h.1; simpa [bcells] using this
  have := run_convert_bytes_back (P := Tryz.prog) W 37 9 TU a c l (by kernel_rfl) (by kernel_rfl) (by kernel_rfl) (fun j hj => by
    rcases h.2.2.2 with ⟨ao, hv, h0⟩ | ⟨b, off, c', hv, _, _, hc⟩
    · omega
    · simp only [Value.slice.injEq, Option.some.injEq] at hv
      obtain ⟨rfl, -, -⟩ := hv
      rw [Addr.add_lit]
      exact hc j _ (by simp [bcells, hj]))
  rwa [hl] at this

section
variable {w : World} {base t p : Nat} {r : Option Nat} {b0 : Option Addr} {c0 : Nat} {l0 : List UInt8} {b1 : Option Addr} {c1 : Nat} {l1 : List UInt8} {ps : List Pc} {T : List UInt8} {most : Int} {edits used : Nat}

theorem bytes_any (h : TabX w base t p r b0 c0 l0 b1 c1 l1 ps T most edits used) (q : Pc) (hq : q ∈ ps) :
    Calls Tryz.prog 62 #[.pointer (some ⟨t, 0, none⟩), .agg #[.int .i64 q.b, .int .i64 q.s, .int .i64 q.z]] w fun e w' => ∃ g c, e = .returned (.slice (some ⟨g, q.s, none⟩) q.z c) ∧ SrcV w 1 (.slice (some ⟨g, q.s, none⟩) q.z c) q.z (bcells (q.txt (bufs l0 l1))) ∧ g < w.heap.size ∧ Below w.heap.size w w' := by
  obtain ⟨k0, k1, k2, k3, k4, k5⟩ := h.cells
  have hlt : t < w.heap.size := (h.foot_lt (.inl rfl)).2
  obtain ⟨hb, hz, hs⟩ := h.ok q hq
  obtain ⟨qb, qs, qz⟩ := q
  dsimp only at hb hz hs ⊢
  by_cases h0 : qb = 0
  · subst h0
    obtain ⟨g, hg, hc1, hc2, hgl, hsrc⟩ := own_src h.row0 qs qz hz hs
    subst hg
    unfold maxLen at hc2
    have hnc : ¬ (c0 = qs) := by omega
    have hw_1 : IntKind.i64.wrap ((qs : Int) + qz) = (qs : Int) + qz := by rw [IntKind.wrap_i64]; omega
    have hin : (qs : Int) + qz ≤ c0 := by omega
    have htn : ((qs : Int) + qz).toNat = qs + qz := by omega
    have hl0 : (0 : Int) ≤ (qs : Int) + qz := by omega
    have HS := Lib.hid hsrc
    clear h k1 k2 k3 k4 k5 hsrc hs hq
    go_enter Tryz.func62, Tryz.ntmps62
    go_wp2
    go_quiet (fail)
    go_wp2
    go_ret
    exact ⟨g, c0 - qs, rfl, HS.out, hgl, ((Below.refl _ w).alloc (Nat.le_refl _) _).trans ⟨rfl, rfl, rfl, Nat.le_refl _, fun _ _ => rfl⟩⟩
  · obtain rfl : qb = 1 := by omega
    obtain ⟨g, hg, hc1, hc2, hgl, hsrc⟩ := own_src h.row1 qs qz hz hs
    subst hg
    unfold maxLen at hc2
    have hnc : ¬ (c1 = qs) := by omega
    have hw_1 : IntKind.i64.wrap ((qs : Int) + qz) = (qs : Int) + qz := by rw [IntKind.wrap_i64]; omega
    have hin : (qs : Int) + qz ≤ c1 := by omega
    have htn : ((qs : Int) + qz).toNat = qs + qz := by omega
    have hl0 : (0 : Int) ≤ (qs : Int) + qz := by omega
    have HS := Lib.hid hsrc
    clear h k0 k2 k3 k4 k5 hsrc hs hq
    go_enter Tryz.func62, Tryz.ntmps62
    go_wp2
    go_quiet (fail)
    go_wp2
    go_ret
    exact ⟨g, c1 - qs, rfl, HS.out, hgl, ((Below.refl _ w).alloc (Nat.le_refl _) _).trans ⟨rfl, rfl, rfl, Nat.le_refl _, fun _ _ => rfl⟩⟩
end
end Go.Proofs.YtfllgmgipmmpkaaGreatDoor.Tb
