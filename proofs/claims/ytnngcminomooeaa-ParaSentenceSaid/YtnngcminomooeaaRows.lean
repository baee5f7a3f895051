/-
  No cell of these rows narrows 'for every input' (looked for: loops, veiled, ifaces, maps, wideKeys, modest, calm, conditions, laid).
  DERIVED. THE GIVEN ROWS OF THIS SEAT. 4 by the template 'for every input the law returns true; each argument reads behind the call as it read before'; 0 by the template 'total and deterministic' (their statements: YtnngcminomooeaaTotals.lean).
  GIVEN WITH THE SEED: the statements are not yours to turn. If you find one false, say at which input.
  Laid BY PROGRAM, IN A SANDBOX (cutbox-rows.mjs): the forced cells as the released guide's own fill.sh prints them over the translation 69580f1b469398b0… (all of the seat's roots in one cut). By AI agents, Wed Nov 11 2026. No macro, syntax, notation, axiom, sorry.
-/
import Derived.Test.YtnngcminomooeaaChecked
import GoSem.Claim
import GoSem.ClaimJoined
import GoSem.ClaimMapViews
import Derived.JoinedTies
import Derived.KernelRfl
namespace Go.Proofs.Ytnngcminomooeaa
/- THE CELL 'sum', in the pinned program and in every row, IS THE sha256 OF THE DUMP (.gsa) THAT YtnngcminomooeaaProg.lean LOADS. Nothing in Lean hashes anything: it is a label: what it is worth is what the hold of that sum in a sandbox is worth. -/
noncomputable def Try.pinned : Pinned := { name := "ytnngcminomooeaa", sum := "69580f1b469398b053f192723b403c8be972fabead4b8cdebdc1d8abd4162746", checked := Try.checked }
namespace Rows
def none {H : Type} : Left H := { results := [], args := [] }

/-- 'foolscaplaw18.ParaBlocks': WHATEVER THE INPUT: true; the input reads as it did. -/
def paraBlocksSpec : ChangeSpec := { name := "paraBlocks", fn := fun _ => fun
  | [d1, d2] => { results := [.lit (.bool true)], args := [d1, d2] }
  | _ => none }
def paraBlocksRow : OpenClaim := { program := "ytnngcminomooeaa", sum := "69580f1b469398b053f192723b403c8be972fabead4b8cdebdc1d8abd4162746", func := "foolscap/foolscaplaw18.ParaBlocks", spec := "paraBlocks", unfollowed := true, recurses := true, apart := false }
def ParaBlocksSaid : Prop := paraBlocksRow.holds Try.pinned (OpenSpec.ofChange paraBlocksSpec)

/-- ITS FALSE NEIGHBOUR: 'it returns false'. Refute it at one input. -/
def paraBlocksWrong : ChangeSpec := { name := "paraBlocks", fn := fun _ => fun
  | [d1, d2] => { results := [.lit (.bool false)], args := [d1, d2] }
  | _ => none }
def ParaBlocksWrongFalsely : Prop := paraBlocksRow.holds Try.pinned (OpenSpec.ofChange paraBlocksWrong)

/-- 'foolscaplaw18.ParaObjects': WHATEVER THE INPUT: true; the input reads as it did. -/
def paraObjectsSpec : ChangeSpec := { name := "paraObjects", fn := fun _ => fun
  | [d1, d2, d3, d4, d5] => { results := [.lit (.bool true)], args := [d1, d2, d3, d4, d5] }
  | _ => none }
def paraObjectsRow : OpenClaim := { program := "ytnngcminomooeaa", sum := "69580f1b469398b053f192723b403c8be972fabead4b8cdebdc1d8abd4162746", func := "foolscap/foolscaplaw18.ParaObjects", spec := "paraObjects", unfollowed := true, recurses := true, apart := false }
def ParaObjectsSaid : Prop := paraObjectsRow.holds Try.pinned (OpenSpec.ofChange paraObjectsSpec)

/-- ITS FALSE NEIGHBOUR: 'it returns false'. Refute it at one input. -/
def paraObjectsWrong : ChangeSpec := { name := "paraObjects", fn := fun _ => fun
  | [d1, d2, d3, d4, d5] => { results := [.lit (.bool false)], args := [d1, d2, d3, d4, d5] }
  | _ => none }
def ParaObjectsWrongFalsely : Prop := paraObjectsRow.holds Try.pinned (OpenSpec.ofChange paraObjectsWrong)

/-- 'foolscaplaw18.ParaCounts': WHATEVER THE INPUT: true; the input reads as it did. -/
def paraCountsSpec : ChangeSpec := { name := "paraCounts", fn := fun _ => fun
  | [d1, d2, d3] => { results := [.lit (.bool true)], args := [d1, d2, d3] }
  | _ => none }
def paraCountsRow : OpenClaim := { program := "ytnngcminomooeaa", sum := "69580f1b469398b053f192723b403c8be972fabead4b8cdebdc1d8abd4162746", func := "foolscap/foolscaplaw18.ParaCounts", spec := "paraCounts", unfollowed := true, recurses := true, apart := false }
def ParaCountsSaid : Prop := paraCountsRow.holds Try.pinned (OpenSpec.ofChange paraCountsSpec)

/-- ITS FALSE NEIGHBOUR: 'it returns false'. Refute it at one input. -/
def paraCountsWrong : ChangeSpec := { name := "paraCounts", fn := fun _ => fun
  | [d1, d2, d3] => { results := [.lit (.bool false)], args := [d1, d2, d3] }
  | _ => none }
def ParaCountsWrongFalsely : Prop := paraCountsRow.holds Try.pinned (OpenSpec.ofChange paraCountsWrong)

/-- 'foolscaplaw18.ParaSentence': WHATEVER THE INPUT: true; the input reads as it did. -/
def paraSentenceSpec : ChangeSpec := { name := "paraSentence", fn := fun _ => fun
  | [d1, d2, d3] => { results := [.lit (.bool true)], args := [d1, d2, d3] }
  | _ => none }
def paraSentenceRow : OpenClaim := { program := "ytnngcminomooeaa", sum := "69580f1b469398b053f192723b403c8be972fabead4b8cdebdc1d8abd4162746", func := "foolscap/foolscaplaw18.ParaSentence", spec := "paraSentence", unfollowed := true, recurses := true, apart := false }
def ParaSentenceSaid : Prop := paraSentenceRow.holds Try.pinned (OpenSpec.ofChange paraSentenceSpec)

/-- ITS FALSE NEIGHBOUR: 'it returns false'. Refute it at one input. -/
def paraSentenceWrong : ChangeSpec := { name := "paraSentence", fn := fun _ => fun
  | [d1, d2, d3] => { results := [.lit (.bool false)], args := [d1, d2, d3] }
  | _ => none }
def ParaSentenceWrongFalsely : Prop := paraSentenceRow.holds Try.pinned (OpenSpec.ofChange paraSentenceWrong)

/- THE SECOND FORM. 'bulk': how many values and letters a reading holds, each counted each time it is reached (what is shared counts as often as it is met; a slice's spare places count too). A statement '..UptoSaid' is the law's where the arguments, and the package variables that the reading takes, are together of bulk at most 1048576: NARROWER than '..Said'. Prove '..Said' where nothing that the law and all that it calls make is longer than what came in: it says more and counts as full. Else prove '..UptoSaid'. A law counts once. -/
mutual
def uptoBulk {H : Type} : DataW H → Nat
  | .lit (.string bytes) => bytes.length + 1
  | .lit _ => 1
  | .nil => 1
  | .ptr d => uptoBulk d + 1
  | .slice elems spare => uptoBulkAll elems + uptoBulkAll spare + 1
  | .agg parts => uptoBulkAll parts + 1
  | .iface _ d => uptoBulk d + 1
  | .map entries => uptoBulkEntries entries + 1
  | .held _ => 1
def uptoBulkAll {H : Type} : List (DataW H) → Nat
  | [] => 0
  | d :: r => uptoBulk d + uptoBulkAll r
def uptoBulkEntries {H : Type} : List (Lit × DataW H) → Nat
  | [] => 0
  | x :: r => uptoBulkEntry x + uptoBulkEntries r
def uptoBulkEntry {H : Type} : Lit × DataW H → Nat
  | (.string bytes, d) => bytes.length + uptoBulk d + 1
  | (_, d) => uptoBulk d + 1
 end
def uptoSmall : (H : Type) → List (DataW H) → Bool := fun _ ds => decide (uptoBulkAll ds ≤ 1048576)
def OpenSpec.upto (s : _root_.Go.ChangeSpec) : _root_.Go.OpenSpec := { _root_.Go.OpenSpec.ofChange s with cond := some uptoSmall }

/-- 'foolscaplaw18.ParaBlocks', WHERE WHAT IT READS IS OF BULK AT MOST 1048576: true; the input reads as it did. -/
def paraBlocksUptoRow : OpenClaim := { program := "ytnngcminomooeaa", sum := "69580f1b469398b053f192723b403c8be972fabead4b8cdebdc1d8abd4162746", func := "foolscap/foolscaplaw18.ParaBlocks", spec := "paraBlocks", unfollowed := true, recurses := true, apart := false, narrowed := true }
def ParaBlocksUptoSaid : Prop := paraBlocksUptoRow.holds Try.pinned (OpenSpec.upto paraBlocksSpec)

/-- 'foolscaplaw18.ParaObjects', WHERE WHAT IT READS IS OF BULK AT MOST 1048576: true; the input reads as it did. -/
def paraObjectsUptoRow : OpenClaim := { program := "ytnngcminomooeaa", sum := "69580f1b469398b053f192723b403c8be972fabead4b8cdebdc1d8abd4162746", func := "foolscap/foolscaplaw18.ParaObjects", spec := "paraObjects", unfollowed := true, recurses := true, apart := false, narrowed := true }
def ParaObjectsUptoSaid : Prop := paraObjectsUptoRow.holds Try.pinned (OpenSpec.upto paraObjectsSpec)

/-- 'foolscaplaw18.ParaCounts', WHERE WHAT IT READS IS OF BULK AT MOST 1048576: true; the input reads as it did. -/
def paraCountsUptoRow : OpenClaim := { program := "ytnngcminomooeaa", sum := "69580f1b469398b053f192723b403c8be972fabead4b8cdebdc1d8abd4162746", func := "foolscap/foolscaplaw18.ParaCounts", spec := "paraCounts", unfollowed := true, recurses := true, apart := false, narrowed := true }
def ParaCountsUptoSaid : Prop := paraCountsUptoRow.holds Try.pinned (OpenSpec.upto paraCountsSpec)

/-- 'foolscaplaw18.ParaSentence', WHERE WHAT IT READS IS OF BULK AT MOST 1048576: true; the input reads as it did. -/
def paraSentenceUptoRow : OpenClaim := { program := "ytnngcminomooeaa", sum := "69580f1b469398b053f192723b403c8be972fabead4b8cdebdc1d8abd4162746", func := "foolscap/foolscaplaw18.ParaSentence", spec := "paraSentence", unfollowed := true, recurses := true, apart := false, narrowed := true }
def ParaSentenceUptoSaid : Prop := paraSentenceUptoRow.holds Try.pinned (OpenSpec.upto paraSentenceSpec)

end Rows
end Go.Proofs.Ytnngcminomooeaa
