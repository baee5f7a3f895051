/-
  No cell of these rows narrows 'for every input' (looked for: loops, veiled, ifaces, maps, wideKeys, modest, calm, conditions, laid).
  DERIVED. THE GIVEN ROWS OF THIS SEAT. 4 by the template 'for every input the law returns true; each argument reads behind the call as it read before'; 0 by the template 'total and deterministic' (their statements: YtjlchnlebiangaaTotals.lean).
  GIVEN WITH THE SEED: the statements are not yours to turn. If you find one false, say at which input.
  Laid BY PROGRAM, IN A SANDBOX (cutbox-rows.mjs): the forced cells as the released guide's own fill.sh prints them over the translation 7136a7923fb4496a… (all of the seat's roots in one cut). By AI agents, Wed Nov 11 2026. No macro, syntax, notation, axiom, sorry.
-/
import Derived.Test.YtjlchnlebiangaaChecked
import GoSem.Claim
import GoSem.ClaimJoined
import GoSem.ClaimMapViews
import Derived.JoinedTies
import Derived.KernelRfl
namespace Go.Proofs.Ytjlchnlebiangaa
/- THE CELL 'sum', in the pinned program and in every row, IS THE sha256 OF THE DUMP (.gsa) THAT YtjlchnlebiangaaProg.lean LOADS. Nothing in Lean hashes anything: it is a label: what it is worth is what the hold of that sum in a sandbox is worth. -/
noncomputable def Try.pinned : Pinned := { name := "ytjlchnlebiangaa", sum := "7136a7923fb4496a920894b6506cfbcbb484d4d3aa295743f97693aedba18830", checked := Try.checked }
namespace Rows
def none {H : Type} : Left H := { results := [], args := [] }

/-- 'foolscaplaw11.PairMatch': WHATEVER THE INPUT: true; the input reads as it did. -/
def pairMatchSpec : ChangeSpec := { name := "pairMatch", fn := fun _ => fun
  | [d1, d2, d3, d4, d5] => { results := [.lit (.bool true)], args := [d1, d2, d3, d4, d5] }
  | _ => none }
def pairMatchRow : OpenClaim := { program := "ytjlchnlebiangaa", sum := "7136a7923fb4496a920894b6506cfbcbb484d4d3aa295743f97693aedba18830", func := "foolscap/foolscaplaw11.PairMatch", spec := "pairMatch", unfollowed := true, recurses := true, apart := false }
def PairMatchSaid : Prop := pairMatchRow.holds Try.pinned (OpenSpec.ofChange pairMatchSpec)

/-- ITS FALSE NEIGHBOUR: 'it returns false'. Refute it at one input. -/
def pairMatchWrong : ChangeSpec := { name := "pairMatch", fn := fun _ => fun
  | [d1, d2, d3, d4, d5] => { results := [.lit (.bool false)], args := [d1, d2, d3, d4, d5] }
  | _ => none }
def PairMatchWrongFalsely : Prop := pairMatchRow.holds Try.pinned (OpenSpec.ofChange pairMatchWrong)

/-- 'foolscaplaw11.PairBack': WHATEVER THE INPUT: true; the input reads as it did. -/
def pairBackSpec : ChangeSpec := { name := "pairBack", fn := fun _ => fun
  | [d1, d2, d3] => { results := [.lit (.bool true)], args := [d1, d2, d3] }
  | _ => none }
def pairBackRow : OpenClaim := { program := "ytjlchnlebiangaa", sum := "7136a7923fb4496a920894b6506cfbcbb484d4d3aa295743f97693aedba18830", func := "foolscap/foolscaplaw11.PairBack", spec := "pairBack", unfollowed := true, recurses := true, apart := false }
def PairBackSaid : Prop := pairBackRow.holds Try.pinned (OpenSpec.ofChange pairBackSpec)

/-- ITS FALSE NEIGHBOUR: 'it returns false'. Refute it at one input. -/
def pairBackWrong : ChangeSpec := { name := "pairBack", fn := fun _ => fun
  | [d1, d2, d3] => { results := [.lit (.bool false)], args := [d1, d2, d3] }
  | _ => none }
def PairBackWrongFalsely : Prop := pairBackRow.holds Try.pinned (OpenSpec.ofChange pairBackWrong)

/-- 'foolscaplaw11.PairEnclosing': WHATEVER THE INPUT: true; the input reads as it did. -/
def pairEnclosingSpec : ChangeSpec := { name := "pairEnclosing", fn := fun _ => fun
  | [d1, d2, d3, d4, d5, d6] => { results := [.lit (.bool true)], args := [d1, d2, d3, d4, d5, d6] }
  | _ => none }
def pairEnclosingRow : OpenClaim := { program := "ytjlchnlebiangaa", sum := "7136a7923fb4496a920894b6506cfbcbb484d4d3aa295743f97693aedba18830", func := "foolscap/foolscaplaw11.PairEnclosing", spec := "pairEnclosing", unfollowed := true, recurses := true, apart := false }
def PairEnclosingSaid : Prop := pairEnclosingRow.holds Try.pinned (OpenSpec.ofChange pairEnclosingSpec)

/-- ITS FALSE NEIGHBOUR: 'it returns false'. Refute it at one input. -/
def pairEnclosingWrong : ChangeSpec := { name := "pairEnclosing", fn := fun _ => fun
  | [d1, d2, d3, d4, d5, d6] => { results := [.lit (.bool false)], args := [d1, d2, d3, d4, d5, d6] }
  | _ => none }
def PairEnclosingWrongFalsely : Prop := pairEnclosingRow.holds Try.pinned (OpenSpec.ofChange pairEnclosingWrong)

/-- 'foolscaplaw11.PairDeep': WHATEVER THE INPUT: true; the input reads as it did. -/
def pairDeepSpec : ChangeSpec := { name := "pairDeep", fn := fun _ => fun
  | [d1, d2] => { results := [.lit (.bool true)], args := [d1, d2] }
  | _ => none }
def pairDeepRow : OpenClaim := { program := "ytjlchnlebiangaa", sum := "7136a7923fb4496a920894b6506cfbcbb484d4d3aa295743f97693aedba18830", func := "foolscap/foolscaplaw11.PairDeep", spec := "pairDeep", unfollowed := true, recurses := true, apart := false }
def PairDeepSaid : Prop := pairDeepRow.holds Try.pinned (OpenSpec.ofChange pairDeepSpec)

/-- ITS FALSE NEIGHBOUR: 'it returns false'. Refute it at one input. -/
def pairDeepWrong : ChangeSpec := { name := "pairDeep", fn := fun _ => fun
  | [d1, d2] => { results := [.lit (.bool false)], args := [d1, d2] }
  | _ => none }
def PairDeepWrongFalsely : Prop := pairDeepRow.holds Try.pinned (OpenSpec.ofChange pairDeepWrong)

/- THE SECOND FORM. 'bulk': how many values and letters a reading holds, each counted each time it is reached (what is shared counts as often as it is met; a slice's spare places count too). A statement '..UptoSaid' is the law's where the arguments, and the package variables that the reading takes, are together of bulk at most 1048576: NARROWER than '..Said'. Prove '..Said' where nothing that the law and all that it calls make is longer than what came in: it says more and counts as full. Else prove '..UptoSaid'. A law counts once. -/
mutual
def uptoBulk {H : Type} : DataW H → Nat
  | .lit (.string bytes) => bytes.length + 1
  | .lit _ => 1
  | .nil => 1
  | .ptr d => uptoBulk d + 1
  | .slice elems spare => uptoBulkAll elems + uptoBulkAll spare + 1
  | .agg parts => uptoBulkAll parts + 1
  | .iface _ d => uptoBulk d + 1
  | .map entries => uptoBulkEntries entries + 1
  | .held _ => 1
def uptoBulkAll {H : Type} : List (DataW H) → Nat
  | [] => 0
  | d :: r => uptoBulk d + uptoBulkAll r
def uptoBulkEntries {H : Type} : List (Lit × DataW H) → Nat
  | [] => 0
  | x :: r => uptoBulkEntry x + uptoBulkEntries r
def uptoBulkEntry {H : Type} : Lit × DataW H → Nat
  | (.string bytes, d) => bytes.length + uptoBulk d + 1
  | (_, d) => uptoBulk d + 1
 end
def uptoSmall : (H : Type) → List (DataW H) → Bool := fun _ ds => decide (uptoBulkAll ds ≤ 1048576)
def OpenSpec.upto (s : _root_.Go.ChangeSpec) : _root_.Go.OpenSpec := { _root_.Go.OpenSpec.ofChange s with cond := some uptoSmall }

/-- 'foolscaplaw11.PairMatch', WHERE WHAT IT READS IS OF BULK AT MOST 1048576: true; the input reads as it did. -/
def pairMatchUptoRow : OpenClaim := { program := "ytjlchnlebiangaa", sum := "7136a7923fb4496a920894b6506cfbcbb484d4d3aa295743f97693aedba18830", func := "foolscap/foolscaplaw11.PairMatch", spec := "pairMatch", unfollowed := true, recurses := true, apart := false, narrowed := true }
def PairMatchUptoSaid : Prop := pairMatchUptoRow.holds Try.pinned (OpenSpec.upto pairMatchSpec)

/-- 'foolscaplaw11.PairBack', WHERE WHAT IT READS IS OF BULK AT MOST 1048576: true; the input reads as it did. -/
def pairBackUptoRow : OpenClaim := { program := "ytjlchnlebiangaa", sum := "7136a7923fb4496a920894b6506cfbcbb484d4d3aa295743f97693aedba18830", func := "foolscap/foolscaplaw11.PairBack", spec := "pairBack", unfollowed := true, recurses := true, apart := false, narrowed := true }
def PairBackUptoSaid : Prop := pairBackUptoRow.holds Try.pinned (OpenSpec.upto pairBackSpec)

/-- 'foolscaplaw11.PairEnclosing', WHERE WHAT IT READS IS OF BULK AT MOST 1048576: true; the input reads as it did. -/
def pairEnclosingUptoRow : OpenClaim := { program := "ytjlchnlebiangaa", sum := "7136a7923fb4496a920894b6506cfbcbb484d4d3aa295743f97693aedba18830", func := "foolscap/foolscaplaw11.PairEnclosing", spec := "pairEnclosing", unfollowed := true, recurses := true, apart := false, narrowed := true }
def PairEnclosingUptoSaid : Prop := pairEnclosingUptoRow.holds Try.pinned (OpenSpec.upto pairEnclosingSpec)

/-- 'foolscaplaw11.PairDeep', WHERE WHAT IT READS IS OF BULK AT MOST 1048576: true; the input reads as it did. -/
def pairDeepUptoRow : OpenClaim := { program := "ytjlchnlebiangaa", sum := "7136a7923fb4496a920894b6506cfbcbb484d4d3aa295743f97693aedba18830", func := "foolscap/foolscaplaw11.PairDeep", spec := "pairDeep", unfollowed := true, recurses := true, apart := false, narrowed := true }
def PairDeepUptoSaid : Prop := pairDeepUptoRow.holds Try.pinned (OpenSpec.upto pairDeepSpec)

end Rows
end Go.Proofs.Ytjlchnlebiangaa
