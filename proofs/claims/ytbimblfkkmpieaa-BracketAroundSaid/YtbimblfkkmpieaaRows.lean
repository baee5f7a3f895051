/-
  No cell of these rows narrows 'for every input' (looked for: loops, veiled, ifaces, maps, wideKeys, modest, calm, conditions, laid).
  DERIVED. THE GIVEN ROWS OF THIS SEAT. 3 by the template 'for every input the law returns true; each argument reads behind the call as it read before'; 0 by the template 'total and deterministic' (their statements: YtbimblfkkmpieaaTotals.lean).
  GIVEN WITH THE SEED: the statements are not yours to turn. If you find one false, say at which input.
  Laid BY PROGRAM, IN A SANDBOX (cutbox-rows.mjs): the forced cells as the released guide's own fill.sh prints them over the translation bc1fec3210475722… (all of the seat's roots in one cut). By AI agents, Wed Nov 11 2026. No macro, syntax, notation, axiom, sorry.
-/
import Derived.Test.YtbimblfkkmpieaaChecked
import GoSem.Claim
import GoSem.ClaimJoined
import GoSem.ClaimMapViews
import Derived.JoinedTies
import Derived.KernelRfl
namespace Go.Proofs.Ytbimblfkkmpieaa
/- THE CELL 'sum', in the pinned program and in every row, IS THE sha256 OF THE DUMP (.gsa) THAT YtbimblfkkmpieaaProg.lean LOADS. Nothing in Lean hashes anything: it is a label: what it is worth is what the hold of that sum in a sandbox is worth. -/
noncomputable def Try.pinned : Pinned := { name := "ytbimblfkkmpieaa", sum := "bc1fec32104757223419a2d0767f5254c6001773e34497701445b8534fe7fa4a", checked := Try.checked }
namespace Rows
def none {H : Type} : Left H := { results := [], args := [] }

/-- 'foolscaplaw17.BracketObjects': WHATEVER THE INPUT: true; the input reads as it did. -/
def bracketObjectsSpec : ChangeSpec := { name := "bracketObjects", fn := fun _ => fun
  | [d1, d2, d3, d4, d5, d6] => { results := [.lit (.bool true)], args := [d1, d2, d3, d4, d5, d6] }
  | _ => none }
def bracketObjectsRow : OpenClaim := { program := "ytbimblfkkmpieaa", sum := "bc1fec32104757223419a2d0767f5254c6001773e34497701445b8534fe7fa4a", func := "foolscap/foolscaplaw17.BracketObjects", spec := "bracketObjects", unfollowed := true, recurses := true, apart := false }
def BracketObjectsSaid : Prop := bracketObjectsRow.holds Try.pinned (OpenSpec.ofChange bracketObjectsSpec)

/-- ITS FALSE NEIGHBOUR: 'it returns false'. Refute it at one input. -/
def bracketObjectsWrong : ChangeSpec := { name := "bracketObjects", fn := fun _ => fun
  | [d1, d2, d3, d4, d5, d6] => { results := [.lit (.bool false)], args := [d1, d2, d3, d4, d5, d6] }
  | _ => none }
def BracketObjectsWrongFalsely : Prop := bracketObjectsRow.holds Try.pinned (OpenSpec.ofChange bracketObjectsWrong)

/-- 'foolscaplaw17.BracketAround': WHATEVER THE INPUT: true; the input reads as it did. -/
def bracketAroundSpec : ChangeSpec := { name := "bracketAround", fn := fun _ => fun
  | [d1, d2, d3, d4, d5] => { results := [.lit (.bool true)], args := [d1, d2, d3, d4, d5] }
  | _ => none }
def bracketAroundRow : OpenClaim := { program := "ytbimblfkkmpieaa", sum := "bc1fec32104757223419a2d0767f5254c6001773e34497701445b8534fe7fa4a", func := "foolscap/foolscaplaw17.BracketAround", spec := "bracketAround", unfollowed := true, recurses := true, apart := false }
def BracketAroundSaid : Prop := bracketAroundRow.holds Try.pinned (OpenSpec.ofChange bracketAroundSpec)

/-- ITS FALSE NEIGHBOUR: 'it returns false'. Refute it at one input. -/
def bracketAroundWrong : ChangeSpec := { name := "bracketAround", fn := fun _ => fun
  | [d1, d2, d3, d4, d5] => { results := [.lit (.bool false)], args := [d1, d2, d3, d4, d5] }
  | _ => none }
def BracketAroundWrongFalsely : Prop := bracketAroundRow.holds Try.pinned (OpenSpec.ofChange bracketAroundWrong)

/-- 'foolscaplaw17.BracketDeep': WHATEVER THE INPUT: true; the input reads as it did. -/
def bracketDeepSpec : ChangeSpec := { name := "bracketDeep", fn := fun _ => fun
  | [d1, d2, d3, d4] => { results := [.lit (.bool true)], args := [d1, d2, d3, d4] }
  | _ => none }
def bracketDeepRow : OpenClaim := { program := "ytbimblfkkmpieaa", sum := "bc1fec32104757223419a2d0767f5254c6001773e34497701445b8534fe7fa4a", func := "foolscap/foolscaplaw17.BracketDeep", spec := "bracketDeep", unfollowed := true, recurses := true, apart := false }
def BracketDeepSaid : Prop := bracketDeepRow.holds Try.pinned (OpenSpec.ofChange bracketDeepSpec)

/-- ITS FALSE NEIGHBOUR: 'it returns false'. Refute it at one input. -/
def bracketDeepWrong : ChangeSpec := { name := "bracketDeep", fn := fun _ => fun
  | [d1, d2, d3, d4] => { results := [.lit (.bool false)], args := [d1, d2, d3, d4] }
  | _ => none }
def BracketDeepWrongFalsely : Prop := bracketDeepRow.holds Try.pinned (OpenSpec.ofChange bracketDeepWrong)

/- THE SECOND FORM. 'bulk': how many values and letters a reading holds, each counted each time it is reached (what is shared counts as often as it is met; a slice's spare places count too). A statement '..UptoSaid' is the law's where the arguments, and the package variables that the reading takes, are together of bulk at most 1048576: NARROWER than '..Said'. Prove '..Said' where nothing that the law and all that it calls make is longer than what came in: it says more and counts as full. Else prove '..UptoSaid'. A law counts once. -/
mutual
def uptoBulk {H : Type} : DataW H → Nat
  | .lit (.string bytes) => bytes.length + 1
  | .lit _ => 1
  | .nil => 1
  | .ptr d => uptoBulk d + 1
  | .slice elems spare => uptoBulkAll elems + uptoBulkAll spare + 1
  | .agg parts => uptoBulkAll parts + 1
  | .iface _ d => uptoBulk d + 1
  | .map entries => uptoBulkEntries entries + 1
  | .held _ => 1
def uptoBulkAll {H : Type} : List (DataW H) → Nat
  | [] => 0
  | d :: r => uptoBulk d + uptoBulkAll r
def uptoBulkEntries {H : Type} : List (Lit × DataW H) → Nat
  | [] => 0
  | x :: r => uptoBulkEntry x + uptoBulkEntries r
def uptoBulkEntry {H : Type} : Lit × DataW H → Nat
  | (.string bytes, d) => bytes.length + uptoBulk d + 1
  | (_, d) => uptoBulk d + 1
 end
def uptoSmall : (H : Type) → List (DataW H) → Bool := fun _ ds => decide (uptoBulkAll ds ≤ 1048576)
def OpenSpec.upto (s : _root_.Go.ChangeSpec) : _root_.Go.OpenSpec := { _root_.Go.OpenSpec.ofChange s with cond := some uptoSmall }

/-- 'foolscaplaw17.BracketObjects', WHERE WHAT IT READS IS OF BULK AT MOST 1048576: true; the input reads as it did. -/
def bracketObjectsUptoRow : OpenClaim := { program := "ytbimblfkkmpieaa", sum := "bc1fec32104757223419a2d0767f5254c6001773e34497701445b8534fe7fa4a", func := "foolscap/foolscaplaw17.BracketObjects", spec := "bracketObjects", unfollowed := true, recurses := true, apart := false, narrowed := true }
def BracketObjectsUptoSaid : Prop := bracketObjectsUptoRow.holds Try.pinned (OpenSpec.upto bracketObjectsSpec)

/-- 'foolscaplaw17.BracketAround', WHERE WHAT IT READS IS OF BULK AT MOST 1048576: true; the input reads as it did. -/
def bracketAroundUptoRow : OpenClaim := { program := "ytbimblfkkmpieaa", sum := "bc1fec32104757223419a2d0767f5254c6001773e34497701445b8534fe7fa4a", func := "foolscap/foolscaplaw17.BracketAround", spec := "bracketAround", unfollowed := true, recurses := true, apart := false, narrowed := true }
def BracketAroundUptoSaid : Prop := bracketAroundUptoRow.holds Try.pinned (OpenSpec.upto bracketAroundSpec)

/-- 'foolscaplaw17.BracketDeep', WHERE WHAT IT READS IS OF BULK AT MOST 1048576: true; the input reads as it did. -/
def bracketDeepUptoRow : OpenClaim := { program := "ytbimblfkkmpieaa", sum := "bc1fec32104757223419a2d0767f5254c6001773e34497701445b8534fe7fa4a", func := "foolscap/foolscaplaw17.BracketDeep", spec := "bracketDeep", unfollowed := true, recurses := true, apart := false, narrowed := true }
def BracketDeepUptoSaid : Prop := bracketDeepUptoRow.holds Try.pinned (OpenSpec.upto bracketDeepSpec)

end Rows
end Go.Proofs.Ytbimblfkkmpieaa
