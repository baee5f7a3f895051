/-
  Package span: Valid.
-/
import Derived.Test.YtnngcminomooeaaSo
import Derived.Test.YtnngcminomooeaaQg
import Derived.Laws.StructEq
set_option linter.unusedVariables false
set_option linter.unusedSimpArgs false
set_option maxRecDepth 100000
namespace Go.Proofs.Ytnngcminomooeaa.So
open Go Go.RowKit Go.Proofs.Ytnngcminomooeaa.Vk Go.Proofs.Ytnngcminomooeaa.Str Go.Proofs.Ytnngcminomooeaa.Ln Go.Proofs.Ytnngcminomooeaa.Cl
attribute [local go_sem] Oper.semAt_some

/-- Two places are held against one another. -/
theorem eq_pos (a b c d : Int) (w : World) : (binOp .eql 36 (.agg #[.int .i64 a, .int .i64 b]) (.agg #[.int .i64 c, .int .i64 d])).run Try.prog w = .ok (.bool (decide (a = c) && decide (b = d))) w := by
  have hS : Try.prog.underlying 36 = some (.struct (Try.prog.fieldsOf 36)) := by kernel_rfl
  have hp : Try.prog.stoodInHeld 36 = false := by kernel_rfl
  rw [run_eql_struct, show (10000 : Nat) = 9999 + 1 from rfl, run_equalIn_agg w 9999 36 _ _ hS hp]
  simp only [Program.fieldsOf, Try.underlying36]
  go_simp
  by_cases h1 : a = c <;> by_cases h2 : b = d <;> simp [h1, h2]

/-- Is the place in the text, or behind a line's last byte? -/
def ins (ls : List ByteArray) (l c : Int) : Bool := decide ((clL ls l : Int) = l) && decide ((clC ls l c true : Int) = c)

def rng (k fl fc tl tc : Int) : Value := .agg #[.int .i64 k, .int .i64 fl, .int .i64 fc, .int .i64 tl, .int .i64 tc]
/-- What Valid asks. -/
def vld (ls : List ByteArray) (k fl fc tl tc : Int) : Bool :=
  decide (0 ≤ fl ∧ fl ≤ tl ∧ tl < ls.length) && (if k = 0 then ins ls fl fc && (ins ls tl tc && !lt tl tc fl fc) else if k = 1 then true else if k = 2 then decide (0 ≤ fc ∧ fc ≤ tc) else false)

end Go.Proofs.Ytnngcminomooeaa.So
