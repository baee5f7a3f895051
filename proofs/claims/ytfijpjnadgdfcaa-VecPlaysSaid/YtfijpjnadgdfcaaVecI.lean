/-
  What the functions of package vec do, at int: one contract a function.
-/
import Derived.Test.YtfijpjnadgdfcaaKit
import Derived.Test.YtfijpjnadgdfcaaProg
import Derived.WalkLawsBesides
import Derived.WalkSpells
import Derived.Outline
import Derived.Deep.DeepFit
import Derived.Deep.DeepMust
import Derived.Lib.Hide
set_option linter.unusedVariables false
namespace Go.Proofs.Ytfijpjnadgdfcaa.VecI
open Go Go.RowKit Go.Proofs.Ytfijpjnadgdfcaa.Vk

abbrev E : TypeId := 3
theorem infoE : (Try.prog.info? E).map (fun i => (i.zero, i.size, i.bytes)) = some (some (.int .i64 0), 1, 8) := by kernel_rfl
theorem underS : Try.prog.underlying 22 = some (.slice E) := by kernel_rfl

theorem new_any (x : Value) (m : Nat) (news : List Value) (w : World) (hs : SrcV w 1 x m news) (hm : m ≤ 1000) :
    Calls Try.prog 9 #[x] w fun e w' => ∃ p r, e = .returned (.pointer (some ⟨p, 0, none⟩)) ∧ IsVec w' w.heap.size 52 E 1 p r m news ∧ Below w.heap.size w w' := by
  obtain ⟨i0, hi, hz0, hz1, hz2⟩ := info_parts infoE
  go_enter Try.func9, Try.ntmps9
  go_wp2_with (at_builtin; go_must (refine append_srcv _ rfl _ _ 22 rfl w.heap.size E i0 (.int .i64 0) 1 8 underS hi hz0 hz1 hz2 rfl (by decide) _ 0 [] rfl (World.ownsRow_nil w w.heap.size E 1) _ m news rfl hs (by simp only [maxLen]; omega) (by omega) (Nat.le_refl _) ?_); intro b' c' w1 hown hg hnr)
  go_ret
  simp only [Nat.zero_add, List.nil_append] at hown ⊢
  refine ⟨w1.heap.size, _, rfl, ⟨b', c', heap_alloc_new _ _, hg.size, hown.alloc _, rfl, ?_⟩, ?_⟩
  · intro h; have := hown.lt _ h; omega
  · exact ((Below.refl _ w).grown hg (Nat.le_refl _) (by intro k hk; simp [Value.ownBlock, Act.eval] at hk)).alloc hg.size _

theorem has_any (base p : Nat) (r : Option Nat) (n : Nat) (xs : List Value) (i : Int) (w : World) (h : IsVec w base 52 E 1 p r n xs) :
    Calls Try.prog 24 #[.pointer (some ⟨p, 0, none⟩), .int .i64 i] w fun e w' => e = .returned (.bool (decide (0 ≤ i ∧ i < n))) ∧ w = w' := by
  obtain ⟨sa, sc, h1, h2, h3, h4, h5⟩ := h
  have hc := cell_of_row w p 0 _ _ _ h1
  simp at hc
  clear h1 h3 h4 h5
  by_cases hi : 0 ≤ i
  · go_enter Try.func24, Try.ntmps24
    go_wp2
    go_ret
    exact ⟨by simp [hi], rfl⟩
  · go_enter Try.func24, Try.ntmps24
    go_wp2
    go_ret
    exact ⟨by simp; omega, rfl⟩

theorem len_any (base p : Nat) (r : Option Nat) (n : Nat) (xs : List Value) (w : World) (h : IsVec w base 52 E 1 p r n xs) :
    Calls Try.prog 22 #[.pointer (some ⟨p, 0, none⟩)] w fun e w' => e = .returned (.int .i64 n) ∧ w = w' := by
  obtain ⟨sa, sc, h1, h2, h3, h4, h5⟩ := h
  have hc := cell_of_row w p 0 _ _ _ h1
  simp at hc
  clear h1 h3 h4 h5
  go_enter Try.func22, Try.ntmps22
  go_wp2
  go_ret
  exact ⟨rfl, rfl⟩

theorem at_in (base p : Nat) (r : Option Nat) (n : Nat) (xs : List Value) (k : Nat) (z : Int) (w : World) (h : IsVec w base 52 E 1 p r n xs) (hk : k < n) (hn : n ≤ 1000000) (hz : xs[k]? = some (.int .i64 z)) :
    Calls Try.prog 14 #[.pointer (some ⟨p, 0, none⟩), .int .i64 k] w fun e w' => e = .returned (.tuple #[.int .i64 z, .bool true]) ∧ w = w' := by
  have H := h
  obtain ⟨sa, sc, h1, h2, h3, h4, h5⟩ := h
  have hc := cell_of_row w p 0 _ _ _ h1
  simp at hc
  obtain ⟨g, rfl⟩ : ∃ g, sa = some ⟨g, 0, none⟩ := by
    rcases h3.2 with ⟨h, h0⟩ | ⟨g, cap, cur, h, _⟩
    · omega
    · simp only [Value.slice.injEq] at h; exact ⟨g, h.1⟩
  have hx := h3.cellAt k (by omega)
  rw [hz] at hx
  have hsc : sc ≤ maxLen := by
    rcases h3.2 with ⟨h, h0⟩ | ⟨g, cap, cur, h, _, _, _, hm, _⟩
    · omega
    · simp only [Value.slice.injEq] at h; omega
  clear h1 h3 h4 h5
  go_enter Try.func14, Try.ntmps14
  go_wp2_with (go_at_call 24; refine (has_any base p r n xs k _ H).mono ?_; rintro e w' ⟨rfl, rfl⟩)
  go_ret2
  exact ⟨rfl, rfl⟩

theorem at_out (base p : Nat) (r : Option Nat) (n : Nat) (xs : List Value) (i : Int) (w : World) (h : IsVec w base 52 E 1 p r n xs) (hk : ¬ (0 ≤ i ∧ i < n)) :
    Calls Try.prog 14 #[.pointer (some ⟨p, 0, none⟩), .int .i64 i] w fun e w' => e = .returned (.tuple #[.int .i64 0, .bool false]) ∧ w = w' := by
  go_enter Try.func14, Try.ntmps14
  go_wp2_with (go_at_call 24; refine (has_any base p r n xs i _ h).mono ?_; rintro e w' ⟨rfl, rfl⟩)
  go_ret2
  exact ⟨rfl, rfl⟩

theorem set_in (base p : Nat) (r : Option Nat) (n : Nat) (xs : List Value) (k : Nat) (z : Int) (w : World) (h : IsVec w base 52 E 1 p r n xs) (hk : k < n) (hn : n ≤ 1000000) :
    Calls Try.prog 13 #[.pointer (some ⟨p, 0, none⟩), .int .i64 k, .int .i64 z] w fun e w' => e = .returned (.bool true) ∧ IsVec w' base 52 E 1 p r n (xs.set k (.int .i64 z)) ∧ Fr (fun b => b = p ∨ r = some b) w w' := by
  have H := h
  obtain ⟨sa, sc, h1, h2, h3, h4, h5⟩ := h
  have hc := cell_of_row w p 0 _ _ _ h1
  simp at hc
  obtain ⟨g, rfl⟩ : ∃ g, sa = some ⟨g, 0, none⟩ := by
    rcases h3.2 with ⟨h, h0⟩ | ⟨g, cap, cur, h, _⟩
    · omega
    · simp only [Value.slice.injEq] at h; exact ⟨g, h.1⟩
  obtain ⟨old, hx⟩ : ∃ u, w.cell? ⟨g, k, none⟩ = some u := ⟨_, (h3.cellAt k (by omega)).trans (List.getElem?_eq_getElem (by have := h3.1; omega))⟩
  have hf := h3.frozenAt k
  have hst := h3.stored k (.int .i64 z)
  have hb := heap_setCell_other w ⟨g, k, none⟩ p (.int .i64 z) (by intro e; apply h5; rw [← h4]; simp [Value.ownBlock, e])
  have HS := Lib.hid hst
  have HB := Lib.hid hb
  have H1 := Lib.hid h1
  have H4 := Lib.hid h4
  have H5 := Lib.hid h5
  clear h1 h3 h4 h5 hst hb
  go_enter Try.func13, Try.ntmps13
  go_wp2_with (go_at_call 24; refine (has_any base p r n xs k _ H).mono ?_; rintro e w' ⟨rfl, rfl⟩)
  go_ret
  refine ⟨rfl, ⟨_, _, HB.out.trans H1.out, h2, HS.out.1, H4.out, H5.out⟩, ?_⟩
  refine (Fr.refl _ _).grown HS.out.2 (fun k hk _ => .inr ?_)
  rw [← H4.out, ← hk]; rfl

theorem set_out (base p : Nat) (r : Option Nat) (n : Nat) (xs : List Value) (i : Int) (z : Int) (w : World) (h : IsVec w base 52 E 1 p r n xs) (hk : ¬ (0 ≤ i ∧ i < n)) :
    Calls Try.prog 13 #[.pointer (some ⟨p, 0, none⟩), .int .i64 i, .int .i64 z] w fun e w' => e = .returned (.bool false) ∧ w = w' := by
  go_enter Try.func13, Try.ntmps13
  go_wp2_with (go_at_call 24; refine (has_any base p r n xs i _ h).mono ?_; rintro e w' ⟨rfl, rfl⟩)
  go_ret
  exact ⟨rfl, rfl⟩

end Go.Proofs.Ytfijpjnadgdfcaa.VecI
