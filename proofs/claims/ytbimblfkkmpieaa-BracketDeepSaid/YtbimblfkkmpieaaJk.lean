/-
  Package pair: Kind, and the document's.
-/
import Derived.Test.YtbimblfkkmpieaaJt
import Derived.Test.YtbimblfkkmpieaaMp
import Derived.Test.YtbimblfkkmpieaaZp
set_option linter.unusedVariables false
set_option linter.unusedSimpArgs false
set_option maxRecDepth 100000
namespace Go.Proofs.Ytbimblfkkmpieaa.Pr
open Go Go.RowKit Go.Proofs.Ytbimblfkkmpieaa.Vk Go.Proofs.Ytbimblfkkmpieaa.Str Go.Proofs.Ytbimblfkkmpieaa.Ln Go.Proofs.Ytbimblfkkmpieaa.Cl Go.Proofs.Ytbimblfkkmpieaa.Mv Go.Proofs.Ytbimblfkkmpieaa.Wd Go.Shelf
attribute [local go_sem] Oper.semAt_some

theorem results_four {fn : Func} {p q u v : Tmp} (h : fn.results = #[.tmp p, .tmp q, .tmp u, .tmp v]) (tmps : Array Value) (Pg : Program) (w : World) :
    (results fn tmps).run Pg w = .ok (.tuple #[tmps.getD p undef, tmps.getD q undef, tmps.getD u undef, tmps.getD v undef]) w := by
  simp [results, h]
/-- What Kind answers. -/
abbrev kV (b : Nat) : Value := .tuple #[.int .u8 (kO b : Nat), .int .u8 (kS b : Nat), .bool (kB b), .bool (kI b)]
theorem kind_any (b : Nat) (w : World) : Calls Try.prog 30 #[.int .u8 b] w fun e w' => e = .returned (kV b) ∧ w = w' := by
  by_cases h : b = 40 ∨ b = 41 ∨ b = 91 ∨ b = 93 ∨ b = 123 ∨ b = 125
  · rcases h with rfl | rfl | rfl | rfl | rfl | rfl
    all_goals
      go_enter Try.func30, Try.ntmps30
      go_wp2
      refine bodyPost_ret (results_four rfl _ _ _) rfl ?_
      exact ⟨rfl, rfl⟩
  · have e1 : ((b : Int) == 40) = false := by rw [beq_eq_false_iff_ne]; omega
    have e2 : ((b : Int) == 41) = false := by rw [beq_eq_false_iff_ne]; omega
    have e3 : ((b : Int) == 91) = false := by rw [beq_eq_false_iff_ne]; omega
    have e4 : ((b : Int) == 93) = false := by rw [beq_eq_false_iff_ne]; omega
    have e5 : ((b : Int) == 123) = false := by rw [beq_eq_false_iff_ne]; omega
    have e6 : ((b : Int) == 125) = false := by rw [beq_eq_false_iff_ne]; omega
    have f1 : kO b = 0 := by unfold kO; rw [if_neg (by omega), if_neg (by omega), if_neg (by omega)]
    have f2 : kS b = 0 := by unfold kS; rw [if_neg (by omega), if_neg (by omega), if_neg (by omega)]
    have f3 : kB b = false := decide_eq_false (by omega)
    have f4 : kI b = false := decide_eq_false h
    unfold kV
    rw [f1, f2, f3, f4]
    clear f1 f2 f3 f4 h
    go_enter Try.func30, Try.ntmps30
    go_wp2
    refine bodyPost_ret (results_four rfl _ _ _) rfl ?_
    exact ⟨rfl, rfl⟩
theorem kind5_any (b : Nat) (w : World) : Calls Try.prog 25 #[.int .u8 b] w fun e w' => e = .returned (kV b) ∧ w = w' := by
  by_cases h : b = 40 ∨ b = 41 ∨ b = 91 ∨ b = 93 ∨ b = 123 ∨ b = 125
  · rcases h with rfl | rfl | rfl | rfl | rfl | rfl
    all_goals
      go_enter Try.func25, Try.ntmps25
      go_wp2
      refine bodyPost_ret (results_four rfl _ _ _) rfl ?_
      exact ⟨rfl, rfl⟩
  · have e1 : ((b : Int) == 40) = false := by rw [beq_eq_false_iff_ne]; omega
    have e2 : ((b : Int) == 41) = false := by rw [beq_eq_false_iff_ne]; omega
    have e3 : ((b : Int) == 91) = false := by rw [beq_eq_false_iff_ne]; omega
    have e4 : ((b : Int) == 93) = false := by rw [beq_eq_false_iff_ne]; omega
    have e5 : ((b : Int) == 123) = false := by rw [beq_eq_false_iff_ne]; omega
    have e6 : ((b : Int) == 125) = false := by rw [beq_eq_false_iff_ne]; omega
    have f1 : kO b = 0 := by unfold kO; rw [if_neg (by omega), if_neg (by omega), if_neg (by omega)]
    have f2 : kS b = 0 := by unfold kS; rw [if_neg (by omega), if_neg (by omega), if_neg (by omega)]
    have f3 : kB b = false := decide_eq_false (by omega)
    have f4 : kI b = false := decide_eq_false h
    unfold kV
    rw [f1, f2, f3, f4]
    clear f1 f2 f3 f4 h
    go_enter Try.func25, Try.ntmps25
    go_wp2
    refine bodyPost_ret (results_four rfl _ _ _) rfl ?_
    exact ⟨rfl, rfl⟩
end Go.Proofs.Ytbimblfkkmpieaa.Pr
