/-
  No cell of these rows narrows 'for every input' (looked for: loops, veiled, ifaces, maps, wideKeys, modest, calm, conditions, laid).
  DERIVED. THE GIVEN ROWS OF THIS SEAT. 5 by the template 'for every input the law returns true; each argument reads behind the call as it read before'; 0 by the template 'total and deterministic' (their statements: YtpdbfdhfonfbeaaTotals.lean).
  GIVEN WITH THE SEED: the statements are not yours to turn. If you find one false, say at which input.
  Laid BY PROGRAM, IN A SANDBOX (cutbox-rows.mjs): the forced cells as the released guide's own fill.sh prints them over the translation 63b40eb90caba75f… (all of the seat's roots in one cut). By AI agents, Wed Nov 11 2026. No macro, syntax, notation, axiom, sorry.
-/
import Derived.Test.YtpdbfdhfonfbeaaChecked
import GoSem.Claim
import GoSem.ClaimJoined
import GoSem.ClaimMapViews
import Derived.JoinedTies
import Derived.KernelRfl
namespace Go.Proofs.Ytpdbfdhfonfbeaa
/- THE CELL 'sum', in the pinned program and in every row, IS THE sha256 OF THE DUMP (.gsa) THAT YtpdbfdhfonfbeaaProg.lean LOADS. Nothing in Lean hashes anything: it is a label: what it is worth is what the hold of that sum in a sandbox is worth. -/
noncomputable def Try.pinned : Pinned := { name := "ytpdbfdhfonfbeaa", sum := "63b40eb90caba75fae81f25200df89c5b02dad6e257a8bd343525c46aa3c300b", checked := Try.checked }
namespace Rows
def none {H : Type} : Left H := { results := [], args := [] }

/-- 'foolscaplaw10.ParaMove': WHATEVER THE INPUT: true; the input reads as it did. -/
def paraMoveSpec : ChangeSpec := { name := "paraMove", fn := fun _ => fun
  | [d1, d2, d3, d4, d5, d6] => { results := [.lit (.bool true)], args := [d1, d2, d3, d4, d5, d6] }
  | _ => none }
def paraMoveRow : OpenClaim := { program := "ytpdbfdhfonfbeaa", sum := "63b40eb90caba75fae81f25200df89c5b02dad6e257a8bd343525c46aa3c300b", func := "foolscap/foolscaplaw10.ParaMove", spec := "paraMove", unfollowed := true, recurses := true, apart := false }
def ParaMoveSaid : Prop := paraMoveRow.holds Try.pinned (OpenSpec.ofChange paraMoveSpec)

/-- ITS FALSE NEIGHBOUR: 'it returns false'. Refute it at one input. -/
def paraMoveWrong : ChangeSpec := { name := "paraMove", fn := fun _ => fun
  | [d1, d2, d3, d4, d5, d6] => { results := [.lit (.bool false)], args := [d1, d2, d3, d4, d5, d6] }
  | _ => none }
def ParaMoveWrongFalsely : Prop := paraMoveRow.holds Try.pinned (OpenSpec.ofChange paraMoveWrong)

/-- 'foolscaplaw10.ParaSentences': WHATEVER THE INPUT: true; the input reads as it did. -/
def paraSentencesSpec : ChangeSpec := { name := "paraSentences", fn := fun _ => fun
  | [d1, d2] => { results := [.lit (.bool true)], args := [d1, d2] }
  | _ => none }
def paraSentencesRow : OpenClaim := { program := "ytpdbfdhfonfbeaa", sum := "63b40eb90caba75fae81f25200df89c5b02dad6e257a8bd343525c46aa3c300b", func := "foolscap/foolscaplaw10.ParaSentences", spec := "paraSentences", unfollowed := true, recurses := true, apart := false }
def ParaSentencesSaid : Prop := paraSentencesRow.holds Try.pinned (OpenSpec.ofChange paraSentencesSpec)

/-- ITS FALSE NEIGHBOUR: 'it returns false'. Refute it at one input. -/
def paraSentencesWrong : ChangeSpec := { name := "paraSentences", fn := fun _ => fun
  | [d1, d2] => { results := [.lit (.bool false)], args := [d1, d2] }
  | _ => none }
def ParaSentencesWrongFalsely : Prop := paraSentencesRow.holds Try.pinned (OpenSpec.ofChange paraSentencesWrong)

/-- 'foolscaplaw10.ParaSteps': WHATEVER THE INPUT: true; the input reads as it did. -/
def paraStepsSpec : ChangeSpec := { name := "paraSteps", fn := fun _ => fun
  | [d1, d2, d3, d4, d5, d6] => { results := [.lit (.bool true)], args := [d1, d2, d3, d4, d5, d6] }
  | _ => none }
def paraStepsRow : OpenClaim := { program := "ytpdbfdhfonfbeaa", sum := "63b40eb90caba75fae81f25200df89c5b02dad6e257a8bd343525c46aa3c300b", func := "foolscap/foolscaplaw10.ParaSteps", spec := "paraSteps", unfollowed := true, recurses := true, apart := false }
def ParaStepsSaid : Prop := paraStepsRow.holds Try.pinned (OpenSpec.ofChange paraStepsSpec)

/-- ITS FALSE NEIGHBOUR: 'it returns false'. Refute it at one input. -/
def paraStepsWrong : ChangeSpec := { name := "paraSteps", fn := fun _ => fun
  | [d1, d2, d3, d4, d5, d6] => { results := [.lit (.bool false)], args := [d1, d2, d3, d4, d5, d6] }
  | _ => none }
def ParaStepsWrongFalsely : Prop := paraStepsRow.holds Try.pinned (OpenSpec.ofChange paraStepsWrong)

/-- 'foolscaplaw10.ParaEmpty': WHATEVER THE INPUT: true; the input reads as it did. -/
def paraEmptySpec : ChangeSpec := { name := "paraEmpty", fn := fun _ => fun
  | [d1, d2] => { results := [.lit (.bool true)], args := [d1, d2] }
  | _ => none }
def paraEmptyRow : OpenClaim := { program := "ytpdbfdhfonfbeaa", sum := "63b40eb90caba75fae81f25200df89c5b02dad6e257a8bd343525c46aa3c300b", func := "foolscap/foolscaplaw10.ParaEmpty", spec := "paraEmpty", unfollowed := true, recurses := true, apart := false }
def ParaEmptySaid : Prop := paraEmptyRow.holds Try.pinned (OpenSpec.ofChange paraEmptySpec)

/-- ITS FALSE NEIGHBOUR: 'it returns false'. Refute it at one input. -/
def paraEmptyWrong : ChangeSpec := { name := "paraEmpty", fn := fun _ => fun
  | [d1, d2] => { results := [.lit (.bool false)], args := [d1, d2] }
  | _ => none }
def ParaEmptyWrongFalsely : Prop := paraEmptyRow.holds Try.pinned (OpenSpec.ofChange paraEmptyWrong)

/-- 'foolscaplaw10.SentOrder': WHATEVER THE INPUT: true; the input reads as it did. -/
def sentOrderSpec : ChangeSpec := { name := "sentOrder", fn := fun _ => fun
  | [d] => { results := [.lit (.bool true)], args := [d] }
  | _ => none }
def sentOrderRow : OpenClaim := { program := "ytpdbfdhfonfbeaa", sum := "63b40eb90caba75fae81f25200df89c5b02dad6e257a8bd343525c46aa3c300b", func := "foolscap/foolscaplaw10.SentOrder", spec := "sentOrder", unfollowed := true, recurses := true, apart := false }
def SentOrderSaid : Prop := sentOrderRow.holds Try.pinned (OpenSpec.ofChange sentOrderSpec)

/-- ITS FALSE NEIGHBOUR: 'it returns false'. Refute it at one input. -/
def sentOrderWrong : ChangeSpec := { name := "sentOrder", fn := fun _ => fun
  | [d] => { results := [.lit (.bool false)], args := [d] }
  | _ => none }
def SentOrderWrongFalsely : Prop := sentOrderRow.holds Try.pinned (OpenSpec.ofChange sentOrderWrong)

/- THE SECOND FORM. 'bulk': how many values and letters a reading holds, each counted each time it is reached (what is shared counts as often as it is met; a slice's spare places count too). A statement '..UptoSaid' is the law's where the arguments, and the package variables that the reading takes, are together of bulk at most 1048576: NARROWER than '..Said'. Prove '..Said' where nothing that the law and all that it calls make is longer than what came in: it says more and counts as full. Else prove '..UptoSaid'. A law counts once. -/
mutual
def uptoBulk {H : Type} : DataW H → Nat
  | .lit (.string bytes) => bytes.length + 1
  | .lit _ => 1
  | .nil => 1
  | .ptr d => uptoBulk d + 1
  | .slice elems spare => uptoBulkAll elems + uptoBulkAll spare + 1
  | .agg parts => uptoBulkAll parts + 1
  | .iface _ d => uptoBulk d + 1
  | .map entries => uptoBulkEntries entries + 1
  | .held _ => 1
def uptoBulkAll {H : Type} : List (DataW H) → Nat
  | [] => 0
  | d :: r => uptoBulk d + uptoBulkAll r
def uptoBulkEntries {H : Type} : List (Lit × DataW H) → Nat
  | [] => 0
  | x :: r => uptoBulkEntry x + uptoBulkEntries r
def uptoBulkEntry {H : Type} : Lit × DataW H → Nat
  | (.string bytes, d) => bytes.length + uptoBulk d + 1
  | (_, d) => uptoBulk d + 1
 end
def uptoSmall : (H : Type) → List (DataW H) → Bool := fun _ ds => decide (uptoBulkAll ds ≤ 1048576)
def OpenSpec.upto (s : _root_.Go.ChangeSpec) : _root_.Go.OpenSpec := { _root_.Go.OpenSpec.ofChange s with cond := some uptoSmall }

/-- 'foolscaplaw10.ParaMove', WHERE WHAT IT READS IS OF BULK AT MOST 1048576: true; the input reads as it did. -/
def paraMoveUptoRow : OpenClaim := { program := "ytpdbfdhfonfbeaa", sum := "63b40eb90caba75fae81f25200df89c5b02dad6e257a8bd343525c46aa3c300b", func := "foolscap/foolscaplaw10.ParaMove", spec := "paraMove", unfollowed := true, recurses := true, apart := false, narrowed := true }
def ParaMoveUptoSaid : Prop := paraMoveUptoRow.holds Try.pinned (OpenSpec.upto paraMoveSpec)

/-- 'foolscaplaw10.ParaSentences', WHERE WHAT IT READS IS OF BULK AT MOST 1048576: true; the input reads as it did. -/
def paraSentencesUptoRow : OpenClaim := { program := "ytpdbfdhfonfbeaa", sum := "63b40eb90caba75fae81f25200df89c5b02dad6e257a8bd343525c46aa3c300b", func := "foolscap/foolscaplaw10.ParaSentences", spec := "paraSentences", unfollowed := true, recurses := true, apart := false, narrowed := true }
def ParaSentencesUptoSaid : Prop := paraSentencesUptoRow.holds Try.pinned (OpenSpec.upto paraSentencesSpec)

/-- 'foolscaplaw10.ParaSteps', WHERE WHAT IT READS IS OF BULK AT MOST 1048576: true; the input reads as it did. -/
def paraStepsUptoRow : OpenClaim := { program := "ytpdbfdhfonfbeaa", sum := "63b40eb90caba75fae81f25200df89c5b02dad6e257a8bd343525c46aa3c300b", func := "foolscap/foolscaplaw10.ParaSteps", spec := "paraSteps", unfollowed := true, recurses := true, apart := false, narrowed := true }
def ParaStepsUptoSaid : Prop := paraStepsUptoRow.holds Try.pinned (OpenSpec.upto paraStepsSpec)

/-- 'foolscaplaw10.ParaEmpty', WHERE WHAT IT READS IS OF BULK AT MOST 1048576: true; the input reads as it did. -/
def paraEmptyUptoRow : OpenClaim := { program := "ytpdbfdhfonfbeaa", sum := "63b40eb90caba75fae81f25200df89c5b02dad6e257a8bd343525c46aa3c300b", func := "foolscap/foolscaplaw10.ParaEmpty", spec := "paraEmpty", unfollowed := true, recurses := true, apart := false, narrowed := true }
def ParaEmptyUptoSaid : Prop := paraEmptyUptoRow.holds Try.pinned (OpenSpec.upto paraEmptySpec)

/-- 'foolscaplaw10.SentOrder', WHERE WHAT IT READS IS OF BULK AT MOST 1048576: true; the input reads as it did. -/
def sentOrderUptoRow : OpenClaim := { program := "ytpdbfdhfonfbeaa", sum := "63b40eb90caba75fae81f25200df89c5b02dad6e257a8bd343525c46aa3c300b", func := "foolscap/foolscaplaw10.SentOrder", spec := "sentOrder", unfollowed := true, recurses := true, apart := false, narrowed := true }
def SentOrderUptoSaid : Prop := sentOrderUptoRow.holds Try.pinned (OpenSpec.upto sentOrderSpec)

end Rows
end Go.Proofs.Ytpdbfdhfonfbeaa
