/-
  The package's functions on numbers of lines, and the document's: counts, moved, Shift; odd, Shift.
-/
import Derived.Test.YtfclclnlmhbgiaaMk
set_option linter.unusedVariables false
set_option linter.unusedSimpArgs false
set_option maxRecDepth 100000
namespace Go.Proofs.Ytfclclnlmhbgiaa.Mk
open Go Go.RowKit Go.Proofs.Ytfclclnlmhbgiaa.Vk Go.Proofs.Ytfclclnlmhbgiaa.Str Go.Proofs.Ytfclclnlmhbgiaa.Ln Go.Proofs.Ytfclclnlmhbgiaa.Cl Go.Proofs.Ytfclclnlmhbgiaa.Ml
attribute [local go_sem] Oper.semAt_some

theorem counts_any (n : Int) (w : World) : Calls Try.prog 32 #[.int .i64 n] w fun e w' => e = .returned (.bool (decide (0 ≤ n ∧ n ≤ 1073741824))) ∧ w = w' := by
  go_enter Try.func32, Try.ntmps32
  go_wp2
  all_goals go_ret
  all_goals exact ⟨ret_bool (by first | (simp; done) | (simp; omega)), rfl⟩
theorem odd_any (n : Int) (w : World) : Calls Try.prog 34 #[.int .i64 n] w fun e w' => e = .returned (.bool (decide (n < 0 ∨ 1073741824 < n))) ∧ w = w' := by
  go_enter Try.func34, Try.ntmps34
  go_wp2
  all_goals go_ret
  all_goals exact ⟨ret_bool (by first | (simp; done) | (simp; omega)), rfl⟩
theorem moved_any (l b : Int) (w : World) (hl : -4611686018427387904 ≤ l ∧ l ≤ 4611686018427387904) (hb : -1073741824 ≤ b ∧ b ≤ 1073741824) : Calls Try.prog 33 #[.int .i64 l, .int .i64 b] w fun e w' => e = .returned (.int .i64 (l + b)) ∧ w = w' := by
  have h2 : IntKind.i64.wrap (l + b) = l + b := by rw [IntKind.wrap_i64]; omega
  by_cases h0 : 0 < b
  · have h1 : IntKind.i64.wrap (9223372036854775807 - b) = 9223372036854775807 - b := by rw [IntKind.wrap_i64]; omega
    have h3 : ¬ (9223372036854775807 - b < l) := by omega
    go_enter Try.func33, Try.ntmps33
    go_wp2
    all_goals go_ret
    all_goals exact ⟨ret_int (by omega), rfl⟩
  · go_enter Try.func33, Try.ntmps33
    go_wp2
    all_goals go_ret
    all_goals exact ⟨ret_int (by omega), rfl⟩

/-- Shift's answer. -/
def shV (l a o n : Int) : Value := .tuple #[.int .i64 ((shf l a o n).getD 0), .bool (shf l a o n).isSome]
theorem shf_odd {l a o n : Int} (h : a < 0 ∨ 1073741824 < a ∨ o < 0 ∨ 1073741824 < o ∨ n < 0 ∨ 1073741824 < n ∨ l < a) : shf l a o n = some l := if_pos h
theorem shf_in {l a o n : Int} (h : ¬ (a < 0 ∨ 1073741824 < a ∨ o < 0 ∨ 1073741824 < o ∨ n < 0 ∨ 1073741824 < n ∨ l < a)) (h1 : l - a < o) (h2 : l - a < n) : shf l a o n = some l := by unfold shf; rw [if_neg h, if_pos h1, if_pos h2]
theorem shf_gone {l a o n : Int} (h : ¬ (a < 0 ∨ 1073741824 < a ∨ o < 0 ∨ 1073741824 < o ∨ n < 0 ∨ 1073741824 < n ∨ l < a)) (h1 : l - a < o) (h2 : ¬ l - a < n) : shf l a o n = none := by unfold shf; rw [if_neg h, if_pos h1, if_neg h2]
theorem shf_on {l a o n : Int} (h : ¬ (a < 0 ∨ 1073741824 < a ∨ o < 0 ∨ 1073741824 < o ∨ n < 0 ∨ 1073741824 < n ∨ l < a)) (h1 : ¬ l - a < o) : shf l a o n = some (l - o + n) := by unfold shf; rw [if_neg h, if_neg h1]
theorem shV_some {l a o n k : Int} (h : shf l a o n = some k) : Ending.returned (shV l a o n) = .returned (.tuple #[.int .i64 k, .bool true]) := by unfold shV; rw [h]; rfl
theorem shV_none {l a o n : Int} (h : shf l a o n = none) : Ending.returned (shV l a o n) = .returned (.tuple #[.int .i64 0, .bool false]) := by unfold shV; rw [h]; rfl

theorem shift_any (l a o n : Int) (w : World) (hl : -4611686018427387904 ≤ l ∧ l ≤ 4611686018427387904) : Calls Try.prog 26 #[.int .i64 l, .int .i64 a, .int .i64 o, .int .i64 n] w fun e w' => e = .returned (shV l a o n) ∧ w = w' := by
  have hc := counts_any
  by_cases h : a < 0 ∨ 1073741824 < a ∨ o < 0 ∨ 1073741824 < o ∨ n < 0 ∨ 1073741824 < n ∨ l < a
  · rw [shV_some (shf_odd h)]
    go_enter Try.func26, Try.ntmps26
    by_cases ha : 0 ≤ a ∧ a ≤ 1073741824
    · by_cases ho : 0 ≤ o ∧ o ≤ 1073741824
      · by_cases hn : 0 ≤ n ∧ n ≤ 1073741824
        · have h3 : l < a := by omega
          go_wp2_with (go_at_call 32; refine (hc _ _).mono ?_; rintro e w' ⟨rfl, rfl⟩)
          go_ret2
          exact ⟨rfl, rfl⟩
        · go_wp2_with (go_at_call 32; refine (hc _ _).mono ?_; rintro e w' ⟨rfl, rfl⟩)
          go_ret2
          exact ⟨rfl, rfl⟩
      · go_wp2_with (go_at_call 32; refine (hc _ _).mono ?_; rintro e w' ⟨rfl, rfl⟩)
        go_ret2
        exact ⟨rfl, rfl⟩
    · go_wp2_with (go_at_call 32; refine (hc _ _).mono ?_; rintro e w' ⟨rfl, rfl⟩)
      go_ret2
      exact ⟨rfl, rfl⟩
  · have ca : (0 ≤ a ∧ a ≤ 1073741824) := by omega
    have co : (0 ≤ o ∧ o ≤ 1073741824) := by omega
    have cn : (0 ≤ n ∧ n ≤ 1073741824) := by omega
    have hla : ¬ l < a := by omega
    have w1 : IntKind.i64.wrap (l - a) = l - a := by rw [IntKind.wrap_i64]; omega
    have w2 : IntKind.i64.wrap (n - o) = n - o := by rw [IntKind.wrap_i64]; omega
    have hm := fun W => moved_any l (n - o) W hl (by omega)
    by_cases h1 : l - a < o
    · have h1' : ¬ o ≤ l - a := by omega
      by_cases h2 : l - a < n
      · rw [shV_some (shf_in h h1 h2)]
        clear h
        go_enter Try.func26, Try.ntmps26
        go_wp2_with (go_at_call 32; refine (hc _ _).mono ?_; rintro e w' ⟨rfl, rfl⟩)
        go_ret2
        exact ⟨rfl, rfl⟩
      · rw [shV_none (shf_gone h h1 h2)]
        clear h
        go_enter Try.func26, Try.ntmps26
        go_wp2_with (go_at_call 32; refine (hc _ _).mono ?_; rintro e w' ⟨rfl, rfl⟩)
        go_ret2
        exact ⟨rfl, rfl⟩
    · rw [shV_some (shf_on h h1), show l - o + n = l + (n - o) by omega]
      have h1' : o ≤ l - a := by omega
      clear h h1
      go_enter Try.func26, Try.ntmps26
      go_wp2_with (first | (go_at_call 32; refine (hc _ _).mono ?_; rintro e w' ⟨rfl, rfl⟩) | (go_at_call 33; refine (hm _).mono ?_; rintro e w' ⟨rfl, rfl⟩))
      go_ret2
      exact ⟨rfl, rfl⟩

theorem shift13_any (l a o n : Int) (w : World) (hl : -4611686018427387904 ≤ l ∧ l ≤ 4611686018427387904) : Calls Try.prog 27 #[.int .i64 l, .int .i64 a, .int .i64 o, .int .i64 n] w fun e w' => e = .returned (shV l a o n) ∧ w = w' := by
  have hc := odd_any
  by_cases h : a < 0 ∨ 1073741824 < a ∨ o < 0 ∨ 1073741824 < o ∨ n < 0 ∨ 1073741824 < n ∨ l < a
  · rw [shV_some (shf_odd h)]
    go_enter Try.func27, Try.ntmps27
    by_cases ha : a < 0 ∨ 1073741824 < a
    · go_wp2_with (go_at_call 34; refine (hc _ _).mono ?_; rintro e w' ⟨rfl, rfl⟩)
      go_ret2
      exact ⟨rfl, rfl⟩
    · by_cases ho : o < 0 ∨ 1073741824 < o
      · go_wp2_with (go_at_call 34; refine (hc _ _).mono ?_; rintro e w' ⟨rfl, rfl⟩)
        go_ret2
        exact ⟨rfl, rfl⟩
      · by_cases hn : n < 0 ∨ 1073741824 < n
        · go_wp2_with (go_at_call 34; refine (hc _ _).mono ?_; rintro e w' ⟨rfl, rfl⟩)
          go_ret2
          exact ⟨rfl, rfl⟩
        · have h3 : l < a := by omega
          go_wp2_with (go_at_call 34; refine (hc _ _).mono ?_; rintro e w' ⟨rfl, rfl⟩)
          go_ret2
          exact ⟨rfl, rfl⟩
  · have ca : ¬ (a < 0 ∨ 1073741824 < a) := by omega
    have co : ¬ (o < 0 ∨ 1073741824 < o) := by omega
    have cn : ¬ (n < 0 ∨ 1073741824 < n) := by omega
    have hla : ¬ l < a := by omega
    have w1 : IntKind.i64.wrap (l - a) = l - a := by rw [IntKind.wrap_i64]; omega
    have w2 : IntKind.i64.wrap (l - o) = l - o := by rw [IntKind.wrap_i64]; omega
    have w3 : IntKind.i64.wrap (l - o + n) = l - o + n := by rw [IntKind.wrap_i64]; omega
    by_cases h1 : l - a < o
    · by_cases h2 : l - a < n
      · rw [shV_some (shf_in h h1 h2)]
        clear h
        go_enter Try.func27, Try.ntmps27
        go_wp2_with (go_at_call 34; refine (hc _ _).mono ?_; rintro e w' ⟨rfl, rfl⟩)
        go_ret2
        exact ⟨rfl, rfl⟩
      · rw [shV_none (shf_gone h h1 h2)]
        clear h
        go_enter Try.func27, Try.ntmps27
        go_wp2_with (go_at_call 34; refine (hc _ _).mono ?_; rintro e w' ⟨rfl, rfl⟩)
        go_ret2
        exact ⟨rfl, rfl⟩
    · rw [shV_some (shf_on h h1)]
      clear h
      go_enter Try.func27, Try.ntmps27
      go_wp2_with (go_at_call 34; refine (hc _ _).mono ?_; rintro e w' ⟨rfl, rfl⟩)
      go_ret2
      exact ⟨rfl, rfl⟩
end Go.Proofs.Ytfclclnlmhbgiaa.Mk
