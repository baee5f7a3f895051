/-
  No cell of these rows narrows 'for every input' (looked for: loops, veiled, ifaces, maps, wideKeys, modest, calm, conditions, laid).
  DERIVED. THE GIVEN ROWS OF THIS SEAT. 7 by the template 'for every input the law returns true; each argument reads behind the call as it read before'; 0 by the template 'total and deterministic' (their statements: YtgfajagajiofnaaTotals.lean).
  GIVEN WITH THE SEED: the statements are not yours to turn. If you find one false, say at which input.
  Laid BY PROGRAM, IN A SANDBOX (cutbox-rows.mjs): the forced cells as the released guide's own fill.sh prints them over the translation e5b7a8f0cdee4361… (all of the seat's roots in one cut). By AI agents, Wed Nov 11 2026. No macro, syntax, notation, axiom, sorry.
-/
import Derived.Test.YtgfajagajiofnaaChecked
import GoSem.Claim
import GoSem.ClaimJoined
import GoSem.ClaimMapViews
import Derived.JoinedTies
import Derived.KernelRfl
namespace Go.Proofs.Ytgfajagajiofnaa
/- THE CELL 'sum', in the pinned program and in every row, IS THE sha256 OF THE DUMP (.gsa) THAT YtgfajagajiofnaaProg.lean LOADS. Nothing in Lean hashes anything: it is a label: what it is worth is what the hold of that sum in a sandbox is worth. -/
noncomputable def Try.pinned : Pinned := { name := "ytgfajagajiofnaa", sum := "e5b7a8f0cdee43616c2b0db85bdba67a78b3d9d1998fde06cee0626fb3ae183e", checked := Try.checked }
namespace Rows
def none {H : Type} : Left H := { results := [], args := [] }

/-- 'foolscaplaw19.RegsPlay': WHATEVER THE INPUT: true; the input reads as it did. -/
def regsPlaySpec : ChangeSpec := { name := "regsPlay", fn := fun _ => fun
  | [d1, d2] => { results := [.lit (.bool true)], args := [d1, d2] }
  | _ => none }
def regsPlayRow : OpenClaim := { program := "ytgfajagajiofnaa", sum := "e5b7a8f0cdee43616c2b0db85bdba67a78b3d9d1998fde06cee0626fb3ae183e", func := "foolscap/foolscaplaw19.RegsPlay", spec := "regsPlay", apart := false }
def RegsPlaySaid : Prop := regsPlayRow.holds Try.pinned (OpenSpec.ofChange regsPlaySpec)

/-- ITS FALSE NEIGHBOUR: 'it returns false'. Refute it at one input. -/
def regsPlayWrong : ChangeSpec := { name := "regsPlay", fn := fun _ => fun
  | [d1, d2] => { results := [.lit (.bool false)], args := [d1, d2] }
  | _ => none }
def RegsPlayWrongFalsely : Prop := regsPlayRow.holds Try.pinned (OpenSpec.ofChange regsPlayWrong)

/-- 'foolscaplaw19.RegsJoin': WHATEVER THE INPUT: true; the input reads as it did. -/
def regsJoinSpec : ChangeSpec := { name := "regsJoin", fn := fun _ => fun
  | [d1, d2] => { results := [.lit (.bool true)], args := [d1, d2] }
  | _ => none }
def regsJoinRow : OpenClaim := { program := "ytgfajagajiofnaa", sum := "e5b7a8f0cdee43616c2b0db85bdba67a78b3d9d1998fde06cee0626fb3ae183e", func := "foolscap/foolscaplaw19.RegsJoin", spec := "regsJoin", apart := false }
def RegsJoinSaid : Prop := regsJoinRow.holds Try.pinned (OpenSpec.ofChange regsJoinSpec)

/-- ITS FALSE NEIGHBOUR: 'it returns false'. Refute it at one input. -/
def regsJoinWrong : ChangeSpec := { name := "regsJoin", fn := fun _ => fun
  | [d1, d2] => { results := [.lit (.bool false)], args := [d1, d2] }
  | _ => none }
def RegsJoinWrongFalsely : Prop := regsJoinRow.holds Try.pinned (OpenSpec.ofChange regsJoinWrong)

/-- 'foolscaplaw19.RegsShift': WHATEVER THE INPUT: true; the input reads as it did. -/
def regsShiftSpec : ChangeSpec := { name := "regsShift", fn := fun _ => fun
  | [d1, d2] => { results := [.lit (.bool true)], args := [d1, d2] }
  | _ => none }
def regsShiftRow : OpenClaim := { program := "ytgfajagajiofnaa", sum := "e5b7a8f0cdee43616c2b0db85bdba67a78b3d9d1998fde06cee0626fb3ae183e", func := "foolscap/foolscaplaw19.RegsShift", spec := "regsShift", apart := false }
def RegsShiftSaid : Prop := regsShiftRow.holds Try.pinned (OpenSpec.ofChange regsShiftSpec)

/-- ITS FALSE NEIGHBOUR: 'it returns false'. Refute it at one input. -/
def regsShiftWrong : ChangeSpec := { name := "regsShift", fn := fun _ => fun
  | [d1, d2] => { results := [.lit (.bool false)], args := [d1, d2] }
  | _ => none }
def RegsShiftWrongFalsely : Prop := regsShiftRow.holds Try.pinned (OpenSpec.ofChange regsShiftWrong)

/-- 'foolscaplaw19.RegsLimit': WHATEVER THE INPUT: true; the input reads as it did. -/
def regsLimitSpec : ChangeSpec := { name := "regsLimit", fn := fun _ => fun
  | [d1, d2, d3] => { results := [.lit (.bool true)], args := [d1, d2, d3] }
  | _ => none }
def regsLimitRow : OpenClaim := { program := "ytgfajagajiofnaa", sum := "e5b7a8f0cdee43616c2b0db85bdba67a78b3d9d1998fde06cee0626fb3ae183e", func := "foolscap/foolscaplaw19.RegsLimit", spec := "regsLimit", apart := false }
def RegsLimitSaid : Prop := regsLimitRow.holds Try.pinned (OpenSpec.ofChange regsLimitSpec)

/-- ITS FALSE NEIGHBOUR: 'it returns false'. Refute it at one input. -/
def regsLimitWrong : ChangeSpec := { name := "regsLimit", fn := fun _ => fun
  | [d1, d2, d3] => { results := [.lit (.bool false)], args := [d1, d2, d3] }
  | _ => none }
def RegsLimitWrongFalsely : Prop := regsLimitRow.holds Try.pinned (OpenSpec.ofChange regsLimitWrong)

/-- 'foolscaplaw19.RegsNames': WHATEVER THE INPUT: true; the input reads as it did. -/
def regsNamesSpec : ChangeSpec := { name := "regsNames", fn := fun _ => fun
  | [d1, d2] => { results := [.lit (.bool true)], args := [d1, d2] }
  | _ => none }
def regsNamesRow : OpenClaim := { program := "ytgfajagajiofnaa", sum := "e5b7a8f0cdee43616c2b0db85bdba67a78b3d9d1998fde06cee0626fb3ae183e", func := "foolscap/foolscaplaw19.RegsNames", spec := "regsNames", apart := false }
def RegsNamesSaid : Prop := regsNamesRow.holds Try.pinned (OpenSpec.ofChange regsNamesSpec)

/-- ITS FALSE NEIGHBOUR: 'it returns false'. Refute it at one input. -/
def regsNamesWrong : ChangeSpec := { name := "regsNames", fn := fun _ => fun
  | [d1, d2] => { results := [.lit (.bool false)], args := [d1, d2] }
  | _ => none }
def RegsNamesWrongFalsely : Prop := regsNamesRow.holds Try.pinned (OpenSpec.ofChange regsNamesWrong)

/-- 'foolscaplaw19.RegsAppend': WHATEVER THE INPUT: true; the input reads as it did. -/
def regsAppendSpec : ChangeSpec := { name := "regsAppend", fn := fun _ => fun
  | [d1, d2, d3] => { results := [.lit (.bool true)], args := [d1, d2, d3] }
  | _ => none }
def regsAppendRow : OpenClaim := { program := "ytgfajagajiofnaa", sum := "e5b7a8f0cdee43616c2b0db85bdba67a78b3d9d1998fde06cee0626fb3ae183e", func := "foolscap/foolscaplaw19.RegsAppend", spec := "regsAppend", apart := false }
def RegsAppendSaid : Prop := regsAppendRow.holds Try.pinned (OpenSpec.ofChange regsAppendSpec)

/-- ITS FALSE NEIGHBOUR: 'it returns false'. Refute it at one input. -/
def regsAppendWrong : ChangeSpec := { name := "regsAppend", fn := fun _ => fun
  | [d1, d2, d3] => { results := [.lit (.bool false)], args := [d1, d2, d3] }
  | _ => none }
def RegsAppendWrongFalsely : Prop := regsAppendRow.holds Try.pinned (OpenSpec.ofChange regsAppendWrong)

/-- 'foolscaplaw19.RegsYank': WHATEVER THE INPUT: true; the input reads as it did. -/
def regsYankSpec : ChangeSpec := { name := "regsYank", fn := fun _ => fun
  | [d1, d2] => { results := [.lit (.bool true)], args := [d1, d2] }
  | _ => none }
def regsYankRow : OpenClaim := { program := "ytgfajagajiofnaa", sum := "e5b7a8f0cdee43616c2b0db85bdba67a78b3d9d1998fde06cee0626fb3ae183e", func := "foolscap/foolscaplaw19.RegsYank", spec := "regsYank", apart := false }
def RegsYankSaid : Prop := regsYankRow.holds Try.pinned (OpenSpec.ofChange regsYankSpec)

/-- ITS FALSE NEIGHBOUR: 'it returns false'. Refute it at one input. -/
def regsYankWrong : ChangeSpec := { name := "regsYank", fn := fun _ => fun
  | [d1, d2] => { results := [.lit (.bool false)], args := [d1, d2] }
  | _ => none }
def RegsYankWrongFalsely : Prop := regsYankRow.holds Try.pinned (OpenSpec.ofChange regsYankWrong)

/- THE SECOND FORM. 'bulk': how many values and letters a reading holds, each counted each time it is reached (what is shared counts as often as it is met; a slice's spare places count too). A statement '..UptoSaid' is the law's where the arguments, and the package variables that the reading takes, are together of bulk at most 1048576: NARROWER than '..Said'. Prove '..Said' where nothing that the law and all that it calls make is longer than what came in: it says more and counts as full. Else prove '..UptoSaid'. A law counts once. -/
mutual
def uptoBulk {H : Type} : DataW H → Nat
  | .lit (.string bytes) => bytes.length + 1
  | .lit _ => 1
  | .nil => 1
  | .ptr d => uptoBulk d + 1
  | .slice elems spare => uptoBulkAll elems + uptoBulkAll spare + 1
  | .agg parts => uptoBulkAll parts + 1
  | .iface _ d => uptoBulk d + 1
  | .map entries => uptoBulkEntries entries + 1
  | .held _ => 1
def uptoBulkAll {H : Type} : List (DataW H) → Nat
  | [] => 0
  | d :: r => uptoBulk d + uptoBulkAll r
def uptoBulkEntries {H : Type} : List (Lit × DataW H) → Nat
  | [] => 0
  | x :: r => uptoBulkEntry x + uptoBulkEntries r
def uptoBulkEntry {H : Type} : Lit × DataW H → Nat
  | (.string bytes, d) => bytes.length + uptoBulk d + 1
  | (_, d) => uptoBulk d + 1
 end
def uptoSmall : (H : Type) → List (DataW H) → Bool := fun _ ds => decide (uptoBulkAll ds ≤ 1048576)
def OpenSpec.upto (s : _root_.Go.ChangeSpec) : _root_.Go.OpenSpec := { _root_.Go.OpenSpec.ofChange s with cond := some uptoSmall }

/-- 'foolscaplaw19.RegsPlay', WHERE WHAT IT READS IS OF BULK AT MOST 1048576: true; the input reads as it did. -/
def regsPlayUptoRow : OpenClaim := { program := "ytgfajagajiofnaa", sum := "e5b7a8f0cdee43616c2b0db85bdba67a78b3d9d1998fde06cee0626fb3ae183e", func := "foolscap/foolscaplaw19.RegsPlay", spec := "regsPlay", apart := false, narrowed := true }
def RegsPlayUptoSaid : Prop := regsPlayUptoRow.holds Try.pinned (OpenSpec.upto regsPlaySpec)

/-- 'foolscaplaw19.RegsJoin', WHERE WHAT IT READS IS OF BULK AT MOST 1048576: true; the input reads as it did. -/
def regsJoinUptoRow : OpenClaim := { program := "ytgfajagajiofnaa", sum := "e5b7a8f0cdee43616c2b0db85bdba67a78b3d9d1998fde06cee0626fb3ae183e", func := "foolscap/foolscaplaw19.RegsJoin", spec := "regsJoin", apart := false, narrowed := true }
def RegsJoinUptoSaid : Prop := regsJoinUptoRow.holds Try.pinned (OpenSpec.upto regsJoinSpec)

/-- 'foolscaplaw19.RegsShift', WHERE WHAT IT READS IS OF BULK AT MOST 1048576: true; the input reads as it did. -/
def regsShiftUptoRow : OpenClaim := { program := "ytgfajagajiofnaa", sum := "e5b7a8f0cdee43616c2b0db85bdba67a78b3d9d1998fde06cee0626fb3ae183e", func := "foolscap/foolscaplaw19.RegsShift", spec := "regsShift", apart := false, narrowed := true }
def RegsShiftUptoSaid : Prop := regsShiftUptoRow.holds Try.pinned (OpenSpec.upto regsShiftSpec)

/-- 'foolscaplaw19.RegsLimit', WHERE WHAT IT READS IS OF BULK AT MOST 1048576: true; the input reads as it did. -/
def regsLimitUptoRow : OpenClaim := { program := "ytgfajagajiofnaa", sum := "e5b7a8f0cdee43616c2b0db85bdba67a78b3d9d1998fde06cee0626fb3ae183e", func := "foolscap/foolscaplaw19.RegsLimit", spec := "regsLimit", apart := false, narrowed := true }
def RegsLimitUptoSaid : Prop := regsLimitUptoRow.holds Try.pinned (OpenSpec.upto regsLimitSpec)

/-- 'foolscaplaw19.RegsNames', WHERE WHAT IT READS IS OF BULK AT MOST 1048576: true; the input reads as it did. -/
def regsNamesUptoRow : OpenClaim := { program := "ytgfajagajiofnaa", sum := "e5b7a8f0cdee43616c2b0db85bdba67a78b3d9d1998fde06cee0626fb3ae183e", func := "foolscap/foolscaplaw19.RegsNames", spec := "regsNames", apart := false, narrowed := true }
def RegsNamesUptoSaid : Prop := regsNamesUptoRow.holds Try.pinned (OpenSpec.upto regsNamesSpec)

/-- 'foolscaplaw19.RegsAppend', WHERE WHAT IT READS IS OF BULK AT MOST 1048576: true; the input reads as it did. -/
def regsAppendUptoRow : OpenClaim := { program := "ytgfajagajiofnaa", sum := "e5b7a8f0cdee43616c2b0db85bdba67a78b3d9d1998fde06cee0626fb3ae183e", func := "foolscap/foolscaplaw19.RegsAppend", spec := "regsAppend", apart := false, narrowed := true }
def RegsAppendUptoSaid : Prop := regsAppendUptoRow.holds Try.pinned (OpenSpec.upto regsAppendSpec)

/-- 'foolscaplaw19.RegsYank', WHERE WHAT IT READS IS OF BULK AT MOST 1048576: true; the input reads as it did. -/
def regsYankUptoRow : OpenClaim := { program := "ytgfajagajiofnaa", sum := "e5b7a8f0cdee43616c2b0db85bdba67a78b3d9d1998fde06cee0626fb3ae183e", func := "foolscap/foolscaplaw19.RegsYank", spec := "regsYank", apart := false, narrowed := true }
def RegsYankUptoSaid : Prop := regsYankUptoRow.holds Try.pinned (OpenSpec.upto regsYankSpec)

end Rows
end Go.Proofs.Ytgfajagajiofnaa
