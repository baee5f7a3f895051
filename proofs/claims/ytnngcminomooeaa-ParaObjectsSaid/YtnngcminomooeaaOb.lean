/-
  Package wordobj: the runs of a line, one by one (Runs).
-/
import Derived.Test.YtnngcminomooeaaOr
set_option linter.unusedVariables false
set_option linter.unusedSimpArgs false
set_option maxRecDepth 100000
namespace Go.Proofs.Ytnngcminomooeaa.Wo
open Go Go.RowKit Go.Proofs.Ytnngcminomooeaa.Vk Go.Proofs.Ytnngcminomooeaa.Str Go.Proofs.Ytnngcminomooeaa.Ln Go.Proofs.Ytnngcminomooeaa.Cl Go.Proofs.Ytnngcminomooeaa.Mv
attribute [local go_sem] Oper.semAt_some

def encr (x : RN) : Array Value := #[.int .i64 x.1, .int .i64 x.2]
/-- A function value that tells a list of runs. -/
def Tells (w : World) (v : Value) (m : Nat) (xs : List RN) : Prop :=
  ∃ g lb, v = .func (.func g) #[] lb ∧ (∀ args w', (callFunc g args).run Try.prog w' = .ok (.enter g args) w') ∧ Iter Try.prog g lb encr m (Kn w) xs w
end Go.Proofs.Ytnngcminomooeaa.Wo
