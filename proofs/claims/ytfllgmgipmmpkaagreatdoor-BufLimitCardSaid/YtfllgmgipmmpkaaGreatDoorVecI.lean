/-
  What the functions of package vec do, at int: one contract a function.
-/
import Derived.Test.YtfllgmgipmmpkaaGreatDoorKit
import Derived.Test.YtfllgmgipmmpkaaGreatDoorProg
import Derived.WalkLawsBesides
import Derived.WalkSpells
import Derived.Outline
import Derived.Deep.DeepFit
import Derived.Deep.DeepMust
import Derived.Lib.Hide
set_option linter.unusedVariables false
set_option linter.unusedSimpArgs false
set_option maxRecDepth 100000
namespace Go.Proofs.YtfllgmgipmmpkaaGreatDoor.VecI
open Go Go.RowKit Go.Proofs.YtfllgmgipmmpkaaGreatDoor.Vk

abbrev E : TypeId := 3
theorem infoE : (Tryz.prog.info? E).map (fun i => (i.zero, i.size, i.bytes)) = some (some (.int .i64 0), 1, 8) := by kernel_rfl
theorem underS : Tryz.prog.underlying 111 = some (.slice E) := by kernel_rfl

theorem new_any (x : Value) (m : Nat) (news : List Value) (w : World) (hs : SrcV w 1 x m news) (hm : m ≤ 1000) :
    Calls Tryz.prog 50 #[x] w fun e w' => ∃ p r, e = .returned (.pointer (some ⟨p, 0, none⟩)) ∧ IsVec w' w.heap.size 113 E 1 p r m news ∧ Below w.heap.size w w' := by
  obtain ⟨i0, hi, hz0, hz1, hz2⟩ := info_parts infoE
  go_enter Tryz.func50, Tryz.ntmps50
  go_wp2_with (at_builtin; go_must (refine append_srcv _ rfl _ _ 111 rfl w.heap.size E i0 (.int .i64 0) 1 8 underS hi hz0 hz1 hz2 rfl (by decide) _ 0 [] rfl (World.ownsRow_nil w w.heap.size E 1) _ m news rfl hs (by simp only [maxLen]; omega) (by omega) (Nat.le_refl _) ?_); intro b' c' w1 hown hg hnr)
  go_ret
  simp only [Nat.zero_add, List.nil_append] at hown ⊢
  refine ⟨w1.heap.size, _, rfl, ⟨b', c', heap_alloc_new _ _, hg.size, hown.alloc _, rfl, ?_⟩, ?_⟩
  · intro h; have := hown.lt _ h; omega
  · exact ((Below.refl _ w).grown hg (Nat.le_refl _) (by intro k hk; simp [Value.ownBlock, Act.eval] at hk)).alloc hg.size _

theorem has_any (base p : Nat) (r : Option Nat) (n : Nat) (xs : List Value) (i : Int) (w : World) (h : IsVec w base 113 E 1 p r n xs) :
    Calls Tryz.prog 75 #[.pointer (some ⟨p, 0, none⟩), .int .i64 i] w fun e w' => e = .returned (.bool (decide (0 ≤ i ∧ i < n))) ∧ w = w' := by
  obtain ⟨sa, sc, h1, h2, h3, h4, h5⟩ := h
  have hc := cell_of_row w p 0 _ _ _ h1
  simp at hc
  clear h1 h3 h4 h5
  by_cases hi : 0 ≤ i
  · go_enter Tryz.func75, Tryz.ntmps75
    go_wp2
    go_ret
    exact ⟨by simp [hi], rfl⟩
  · go_enter Tryz.func75, Tryz.ntmps75
    go_wp2
    go_ret
    exact ⟨by simp; omega, rfl⟩

theorem len_any (base p : Nat) (r : Option Nat) (n : Nat) (xs : List Value) (w : World) (h : IsVec w base 113 E 1 p r n xs) :
    Calls Tryz.prog 63 #[.pointer (some ⟨p, 0, none⟩)] w fun e w' => e = .returned (.int .i64 n) ∧ w = w' := by
  obtain ⟨sa, sc, h1, h2, h3, h4, h5⟩ := h
  have hc := cell_of_row w p 0 _ _ _ h1
  simp at hc
  clear h1 h3 h4 h5
  go_enter Tryz.func63, Tryz.ntmps63
  go_wp2
  go_ret
  exact ⟨rfl, rfl⟩

theorem at_in (base p : Nat) (r : Option Nat) (n : Nat) (xs : List Value) (k : Nat) (z : Int) (w : World) (h : IsVec w base 113 E 1 p r n xs) (hk : k < n) (hn : n ≤ 1000000) (hz : xs[k]? = some (.int .i64 z)) :
    Calls Tryz.prog 52 #[.pointer (some ⟨p, 0, none⟩), .int .i64 k] w fun e w' => e = .returned (.tuple #[.int .i64 z, .bool true]) ∧ w = w' := by
  have H := h
  obtain ⟨sa, sc, h1, h2, h3, h4, h5⟩ := h
  have hc := cell_of_row w p 0 _ _ _ h1
  simp at hc
  obtain ⟨g, rfl⟩ : ∃ g, sa = some ⟨g, 0, none⟩ := by
    rcases h3.2 with ⟨h, h0⟩ | ⟨g, cap, cur, h, _⟩
    · omega
    · simp only [Value.slice.injEq] at h; exact ⟨g, h.1⟩
  have hx := h3.cellAt k (by omega)
  rw [hz] at hx
  have hsc : sc ≤ maxLen := by
    rcases h3.2 with ⟨h, h0⟩ | ⟨g, cap, cur, h, _, _, _, hm, _⟩
    · omega
    · simp only [Value.slice.injEq] at h; omega
  clear h1 h3 h4 h5
  go_enter Tryz.func52, Tryz.ntmps52
  go_wp2_with (go_at_call 75; refine (has_any base p r n xs k _ H).mono ?_; rintro e w' ⟨rfl, rfl⟩)
  go_ret2
  exact ⟨rfl, rfl⟩

theorem at_out (base p : Nat) (r : Option Nat) (n : Nat) (xs : List Value) (i : Int) (w : World) (h : IsVec w base 113 E 1 p r n xs) (hk : ¬ (0 ≤ i ∧ i < n)) :
    Calls Tryz.prog 52 #[.pointer (some ⟨p, 0, none⟩), .int .i64 i] w fun e w' => e = .returned (.tuple #[.int .i64 0, .bool false]) ∧ w = w' := by
  go_enter Tryz.func52, Tryz.ntmps52
  go_wp2_with (go_at_call 75; refine (has_any base p r n xs i _ h).mono ?_; rintro e w' ⟨rfl, rfl⟩)
  go_ret2
  exact ⟨rfl, rfl⟩

end Go.Proofs.YtfllgmgipmmpkaaGreatDoor.VecI
