/-
  No cell of these rows narrows 'for every input' (looked for: loops, veiled, ifaces, maps, wideKeys, modest, calm, conditions, laid).
  DERIVED. THE GIVEN ROWS OF THIS SEAT. 4 by the template 'for every input the law returns true; each argument reads behind the call as it read before'; 0 by the template 'total and deterministic' (their statements: YtenehehljmckbaaTotals.lean).
  GIVEN WITH THE SEED: the statements are not yours to turn. If you find one false, say at which input.
  Laid BY PROGRAM, IN A SANDBOX (cutbox-rows.mjs): the forced cells as the released guide's own fill.sh prints them over the translation 2b47b9db4ba3c32c… (all of the seat's roots in one cut). By AI agents, Wed Nov 11 2026. No macro, syntax, notation, axiom, sorry.
-/
import Derived.Test.YtenehehljmckbaaChecked
import GoSem.Claim
import GoSem.ClaimJoined
import GoSem.ClaimMapViews
import Derived.JoinedTies
import Derived.KernelRfl
namespace Go.Proofs.Ytenehehljmckbaa
/- THE CELL 'sum', in the pinned program and in every row, IS THE sha256 OF THE DUMP (.gsa) THAT YtenehehljmckbaaProg.lean LOADS. Nothing in Lean hashes anything: it is a label: what it is worth is what the hold of that sum in a sandbox is worth. -/
noncomputable def Try.pinned : Pinned := { name := "ytenehehljmckbaa", sum := "2b47b9db4ba3c32ca336a53890f1decef5193f69a46b1cea9d111d76b846588c", checked := Try.checked }
namespace Rows
def none {H : Type} : Left H := { results := [], args := [] }

/-- 'foolscaplaw15.WordRuns': WHATEVER THE INPUT: true; the input reads as it did. -/
def wordRunsSpec : ChangeSpec := { name := "wordRuns", fn := fun _ => fun
  | [d1, d2, d3] => { results := [.lit (.bool true)], args := [d1, d2, d3] }
  | _ => none }
def wordRunsRow : OpenClaim := { program := "ytenehehljmckbaa", sum := "2b47b9db4ba3c32ca336a53890f1decef5193f69a46b1cea9d111d76b846588c", func := "foolscap/foolscaplaw15.WordRuns", spec := "wordRuns", unfollowed := true, recurses := true, apart := false }
def WordRunsSaid : Prop := wordRunsRow.holds Try.pinned (OpenSpec.ofChange wordRunsSpec)

/-- ITS FALSE NEIGHBOUR: 'it returns false'. Refute it at one input. -/
def wordRunsWrong : ChangeSpec := { name := "wordRuns", fn := fun _ => fun
  | [d1, d2, d3] => { results := [.lit (.bool false)], args := [d1, d2, d3] }
  | _ => none }
def WordRunsWrongFalsely : Prop := wordRunsRow.holds Try.pinned (OpenSpec.ofChange wordRunsWrong)

/-- 'foolscaplaw15.WordObjects': WHATEVER THE INPUT: true; the input reads as it did. -/
def wordObjectsSpec : ChangeSpec := { name := "wordObjects", fn := fun _ => fun
  | [d1, d2, d3, d4, d5, d6] => { results := [.lit (.bool true)], args := [d1, d2, d3, d4, d5, d6] }
  | _ => none }
def wordObjectsRow : OpenClaim := { program := "ytenehehljmckbaa", sum := "2b47b9db4ba3c32ca336a53890f1decef5193f69a46b1cea9d111d76b846588c", func := "foolscap/foolscaplaw15.WordObjects", spec := "wordObjects", unfollowed := true, recurses := true, apart := false }
def WordObjectsSaid : Prop := wordObjectsRow.holds Try.pinned (OpenSpec.ofChange wordObjectsSpec)

/-- ITS FALSE NEIGHBOUR: 'it returns false'. Refute it at one input. -/
def wordObjectsWrong : ChangeSpec := { name := "wordObjects", fn := fun _ => fun
  | [d1, d2, d3, d4, d5, d6] => { results := [.lit (.bool false)], args := [d1, d2, d3, d4, d5, d6] }
  | _ => none }
def WordObjectsWrongFalsely : Prop := wordObjectsRow.holds Try.pinned (OpenSpec.ofChange wordObjectsWrong)

/-- 'foolscaplaw15.WordCounts': WHATEVER THE INPUT: true; the input reads as it did. -/
def wordCountsSpec : ChangeSpec := { name := "wordCounts", fn := fun _ => fun
  | [d1, d2, d3, d4] => { results := [.lit (.bool true)], args := [d1, d2, d3, d4] }
  | _ => none }
def wordCountsRow : OpenClaim := { program := "ytenehehljmckbaa", sum := "2b47b9db4ba3c32ca336a53890f1decef5193f69a46b1cea9d111d76b846588c", func := "foolscap/foolscaplaw15.WordCounts", spec := "wordCounts", unfollowed := true, recurses := true, apart := false }
def WordCountsSaid : Prop := wordCountsRow.holds Try.pinned (OpenSpec.ofChange wordCountsSpec)

/-- ITS FALSE NEIGHBOUR: 'it returns false'. Refute it at one input. -/
def wordCountsWrong : ChangeSpec := { name := "wordCounts", fn := fun _ => fun
  | [d1, d2, d3, d4] => { results := [.lit (.bool false)], args := [d1, d2, d3, d4] }
  | _ => none }
def WordCountsWrongFalsely : Prop := wordCountsRow.holds Try.pinned (OpenSpec.ofChange wordCountsWrong)

/-- 'foolscaplaw15.WordAround': WHATEVER THE INPUT: true; the input reads as it did. -/
def wordAroundSpec : ChangeSpec := { name := "wordAround", fn := fun _ => fun
  | [d1, d2, d3, d4] => { results := [.lit (.bool true)], args := [d1, d2, d3, d4] }
  | _ => none }
def wordAroundRow : OpenClaim := { program := "ytenehehljmckbaa", sum := "2b47b9db4ba3c32ca336a53890f1decef5193f69a46b1cea9d111d76b846588c", func := "foolscap/foolscaplaw15.WordAround", spec := "wordAround", unfollowed := true, recurses := true, apart := false }
def WordAroundSaid : Prop := wordAroundRow.holds Try.pinned (OpenSpec.ofChange wordAroundSpec)

/-- ITS FALSE NEIGHBOUR: 'it returns false'. Refute it at one input. -/
def wordAroundWrong : ChangeSpec := { name := "wordAround", fn := fun _ => fun
  | [d1, d2, d3, d4] => { results := [.lit (.bool false)], args := [d1, d2, d3, d4] }
  | _ => none }
def WordAroundWrongFalsely : Prop := wordAroundRow.holds Try.pinned (OpenSpec.ofChange wordAroundWrong)

/- THE SECOND FORM. 'bulk': how many values and letters a reading holds, each counted each time it is reached (what is shared counts as often as it is met; a slice's spare places count too). A statement '..UptoSaid' is the law's where the arguments, and the package variables that the reading takes, are together of bulk at most 1048576: NARROWER than '..Said'. Prove '..Said' where nothing that the law and all that it calls make is longer than what came in: it says more and counts as full. Else prove '..UptoSaid'. A law counts once. -/
mutual
def uptoBulk {H : Type} : DataW H → Nat
  | .lit (.string bytes) => bytes.length + 1
  | .lit _ => 1
  | .nil => 1
  | .ptr d => uptoBulk d + 1
  | .slice elems spare => uptoBulkAll elems + uptoBulkAll spare + 1
  | .agg parts => uptoBulkAll parts + 1
  | .iface _ d => uptoBulk d + 1
  | .map entries => uptoBulkEntries entries + 1
  | .held _ => 1
def uptoBulkAll {H : Type} : List (DataW H) → Nat
  | [] => 0
  | d :: r => uptoBulk d + uptoBulkAll r
def uptoBulkEntries {H : Type} : List (Lit × DataW H) → Nat
  | [] => 0
  | x :: r => uptoBulkEntry x + uptoBulkEntries r
def uptoBulkEntry {H : Type} : Lit × DataW H → Nat
  | (.string bytes, d) => bytes.length + uptoBulk d + 1
  | (_, d) => uptoBulk d + 1
 end
def uptoSmall : (H : Type) → List (DataW H) → Bool := fun _ ds => decide (uptoBulkAll ds ≤ 1048576)
def OpenSpec.upto (s : _root_.Go.ChangeSpec) : _root_.Go.OpenSpec := { _root_.Go.OpenSpec.ofChange s with cond := some uptoSmall }

/-- 'foolscaplaw15.WordRuns', WHERE WHAT IT READS IS OF BULK AT MOST 1048576: true; the input reads as it did. -/
def wordRunsUptoRow : OpenClaim := { program := "ytenehehljmckbaa", sum := "2b47b9db4ba3c32ca336a53890f1decef5193f69a46b1cea9d111d76b846588c", func := "foolscap/foolscaplaw15.WordRuns", spec := "wordRuns", unfollowed := true, recurses := true, apart := false, narrowed := true }
def WordRunsUptoSaid : Prop := wordRunsUptoRow.holds Try.pinned (OpenSpec.upto wordRunsSpec)

/-- 'foolscaplaw15.WordObjects', WHERE WHAT IT READS IS OF BULK AT MOST 1048576: true; the input reads as it did. -/
def wordObjectsUptoRow : OpenClaim := { program := "ytenehehljmckbaa", sum := "2b47b9db4ba3c32ca336a53890f1decef5193f69a46b1cea9d111d76b846588c", func := "foolscap/foolscaplaw15.WordObjects", spec := "wordObjects", unfollowed := true, recurses := true, apart := false, narrowed := true }
def WordObjectsUptoSaid : Prop := wordObjectsUptoRow.holds Try.pinned (OpenSpec.upto wordObjectsSpec)

/-- 'foolscaplaw15.WordCounts', WHERE WHAT IT READS IS OF BULK AT MOST 1048576: true; the input reads as it did. -/
def wordCountsUptoRow : OpenClaim := { program := "ytenehehljmckbaa", sum := "2b47b9db4ba3c32ca336a53890f1decef5193f69a46b1cea9d111d76b846588c", func := "foolscap/foolscaplaw15.WordCounts", spec := "wordCounts", unfollowed := true, recurses := true, apart := false, narrowed := true }
def WordCountsUptoSaid : Prop := wordCountsUptoRow.holds Try.pinned (OpenSpec.upto wordCountsSpec)

/-- 'foolscaplaw15.WordAround', WHERE WHAT IT READS IS OF BULK AT MOST 1048576: true; the input reads as it did. -/
def wordAroundUptoRow : OpenClaim := { program := "ytenehehljmckbaa", sum := "2b47b9db4ba3c32ca336a53890f1decef5193f69a46b1cea9d111d76b846588c", func := "foolscap/foolscaplaw15.WordAround", spec := "wordAround", unfollowed := true, recurses := true, apart := false, narrowed := true }
def WordAroundUptoSaid : Prop := wordAroundUptoRow.holds Try.pinned (OpenSpec.upto wordAroundSpec)

end Rows
end Go.Proofs.Ytenehehljmckbaa
