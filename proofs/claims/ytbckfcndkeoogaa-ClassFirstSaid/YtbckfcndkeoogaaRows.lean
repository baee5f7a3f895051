/-
  No cell of these rows narrows 'for every input' (looked for: loops, veiled, ifaces, maps, wideKeys, modest, calm, conditions, laid).
  DERIVED. THE GIVEN ROWS OF THIS SEAT. 5 by the template 'for every input the law returns true; each argument reads behind the call as it read before'; 0 by the template 'total and deterministic' (their statements: YtbckfcndkeoogaaTotals.lean).
  GIVEN WITH THE SEED: the statements are not yours to turn. If you find one false, say at which input.
  Laid BY PROGRAM, IN A SANDBOX (cutbox-rows.mjs): the forced cells as the released guide's own fill.sh prints them over the translation b457ecf5f9b97bff… (all of the seat's roots in one cut). By AI agents, Wed Nov 11 2026. No macro, syntax, notation, axiom, sorry.
-/
import Derived.Test.YtbckfcndkeoogaaChecked
import GoSem.Claim
import GoSem.ClaimJoined
import GoSem.ClaimMapViews
import Derived.JoinedTies
import Derived.KernelRfl
namespace Go.Proofs.Ytbckfcndkeoogaa
/- THE CELL 'sum', in the pinned program and in every row, IS THE sha256 OF THE DUMP (.gsa) THAT YtbckfcndkeoogaaProg.lean LOADS. Nothing in Lean hashes anything: it is a label: what it is worth is what the hold of that sum in a sandbox is worth. -/
noncomputable def Try.pinned : Pinned := { name := "ytbckfcndkeoogaa", sum := "b457ecf5f9b97bff422fc12305378a2d0ff10f10e789e259ef6550adcb73f7ea", checked := Try.checked }
namespace Rows
def none {H : Type} : Left H := { results := [], args := [] }

/-- 'foolscaplaw5.ClassTells': WHATEVER THE INPUT: true; the input reads as it did. -/
def classTellsSpec : ChangeSpec := { name := "classTells", fn := fun _ => fun
  | [d1, d2] => { results := [.lit (.bool true)], args := [d1, d2] }
  | _ => none }
def classTellsRow : OpenClaim := { program := "ytbckfcndkeoogaa", sum := "b457ecf5f9b97bff422fc12305378a2d0ff10f10e789e259ef6550adcb73f7ea", func := "foolscap/foolscaplaw5.ClassTells", spec := "classTells", apart := false }
def ClassTellsSaid : Prop := classTellsRow.holds Try.pinned (OpenSpec.ofChange classTellsSpec)

/-- ITS FALSE NEIGHBOUR: 'it returns false'. Refute it at one input. -/
def classTellsWrong : ChangeSpec := { name := "classTells", fn := fun _ => fun
  | [d1, d2] => { results := [.lit (.bool false)], args := [d1, d2] }
  | _ => none }
def ClassTellsWrongFalsely : Prop := classTellsRow.holds Try.pinned (OpenSpec.ofChange classTellsWrong)

/-- 'foolscaplaw5.ClassClamps': WHATEVER THE INPUT: true; the input reads as it did. -/
def classClampsSpec : ChangeSpec := { name := "classClamps", fn := fun _ => fun
  | [d1, d2, d3, d4, d5] => { results := [.lit (.bool true)], args := [d1, d2, d3, d4, d5] }
  | _ => none }
def classClampsRow : OpenClaim := { program := "ytbckfcndkeoogaa", sum := "b457ecf5f9b97bff422fc12305378a2d0ff10f10e789e259ef6550adcb73f7ea", func := "foolscap/foolscaplaw5.ClassClamps", spec := "classClamps", apart := false }
def ClassClampsSaid : Prop := classClampsRow.holds Try.pinned (OpenSpec.ofChange classClampsSpec)

/-- ITS FALSE NEIGHBOUR: 'it returns false'. Refute it at one input. -/
def classClampsWrong : ChangeSpec := { name := "classClamps", fn := fun _ => fun
  | [d1, d2, d3, d4, d5] => { results := [.lit (.bool false)], args := [d1, d2, d3, d4, d5] }
  | _ => none }
def ClassClampsWrongFalsely : Prop := classClampsRow.holds Try.pinned (OpenSpec.ofChange classClampsWrong)

/-- 'foolscaplaw5.ClassSame': WHATEVER THE INPUT: true; the input reads as it did. -/
def classSameSpec : ChangeSpec := { name := "classSame", fn := fun _ => fun
  | [d1, d2, d3] => { results := [.lit (.bool true)], args := [d1, d2, d3] }
  | _ => none }
def classSameRow : OpenClaim := { program := "ytbckfcndkeoogaa", sum := "b457ecf5f9b97bff422fc12305378a2d0ff10f10e789e259ef6550adcb73f7ea", func := "foolscap/foolscaplaw5.ClassSame", spec := "classSame", apart := false }
def ClassSameSaid : Prop := classSameRow.holds Try.pinned (OpenSpec.ofChange classSameSpec)

/-- ITS FALSE NEIGHBOUR: 'it returns false'. Refute it at one input. -/
def classSameWrong : ChangeSpec := { name := "classSame", fn := fun _ => fun
  | [d1, d2, d3] => { results := [.lit (.bool false)], args := [d1, d2, d3] }
  | _ => none }
def ClassSameWrongFalsely : Prop := classSameRow.holds Try.pinned (OpenSpec.ofChange classSameWrong)

/-- 'foolscaplaw5.ClassFirst': WHATEVER THE INPUT: true; the input reads as it did. -/
def classFirstSpec : ChangeSpec := { name := "classFirst", fn := fun _ => fun
  | [d1, d2] => { results := [.lit (.bool true)], args := [d1, d2] }
  | _ => none }
def classFirstRow : OpenClaim := { program := "ytbckfcndkeoogaa", sum := "b457ecf5f9b97bff422fc12305378a2d0ff10f10e789e259ef6550adcb73f7ea", func := "foolscap/foolscaplaw5.ClassFirst", spec := "classFirst", apart := false }
def ClassFirstSaid : Prop := classFirstRow.holds Try.pinned (OpenSpec.ofChange classFirstSpec)

/-- ITS FALSE NEIGHBOUR: 'it returns false'. Refute it at one input. -/
def classFirstWrong : ChangeSpec := { name := "classFirst", fn := fun _ => fun
  | [d1, d2] => { results := [.lit (.bool false)], args := [d1, d2] }
  | _ => none }
def ClassFirstWrongFalsely : Prop := classFirstRow.holds Try.pinned (OpenSpec.ofChange classFirstWrong)

/-- 'foolscaplaw5.ClassInside': WHATEVER THE INPUT: true; the input reads as it did. -/
def classInsideSpec : ChangeSpec := { name := "classInside", fn := fun _ => fun
  | [d1, d2, d3] => { results := [.lit (.bool true)], args := [d1, d2, d3] }
  | _ => none }
def classInsideRow : OpenClaim := { program := "ytbckfcndkeoogaa", sum := "b457ecf5f9b97bff422fc12305378a2d0ff10f10e789e259ef6550adcb73f7ea", func := "foolscap/foolscaplaw5.ClassInside", spec := "classInside", apart := false }
def ClassInsideSaid : Prop := classInsideRow.holds Try.pinned (OpenSpec.ofChange classInsideSpec)

/-- ITS FALSE NEIGHBOUR: 'it returns false'. Refute it at one input. -/
def classInsideWrong : ChangeSpec := { name := "classInside", fn := fun _ => fun
  | [d1, d2, d3] => { results := [.lit (.bool false)], args := [d1, d2, d3] }
  | _ => none }
def ClassInsideWrongFalsely : Prop := classInsideRow.holds Try.pinned (OpenSpec.ofChange classInsideWrong)

/- THE SECOND FORM. 'bulk': how many values and letters a reading holds, each counted each time it is reached (what is shared counts as often as it is met; a slice's spare places count too). A statement '..UptoSaid' is the law's where the arguments, and the package variables that the reading takes, are together of bulk at most 1048576: NARROWER than '..Said'. Prove '..Said' where nothing that the law and all that it calls make is longer than what came in: it says more and counts as full. Else prove '..UptoSaid'. A law counts once. -/
mutual
def uptoBulk {H : Type} : DataW H → Nat
  | .lit (.string bytes) => bytes.length + 1
  | .lit _ => 1
  | .nil => 1
  | .ptr d => uptoBulk d + 1
  | .slice elems spare => uptoBulkAll elems + uptoBulkAll spare + 1
  | .agg parts => uptoBulkAll parts + 1
  | .iface _ d => uptoBulk d + 1
  | .map entries => uptoBulkEntries entries + 1
  | .held _ => 1
def uptoBulkAll {H : Type} : List (DataW H) → Nat
  | [] => 0
  | d :: r => uptoBulk d + uptoBulkAll r
def uptoBulkEntries {H : Type} : List (Lit × DataW H) → Nat
  | [] => 0
  | x :: r => uptoBulkEntry x + uptoBulkEntries r
def uptoBulkEntry {H : Type} : Lit × DataW H → Nat
  | (.string bytes, d) => bytes.length + uptoBulk d + 1
  | (_, d) => uptoBulk d + 1
 end
def uptoSmall : (H : Type) → List (DataW H) → Bool := fun _ ds => decide (uptoBulkAll ds ≤ 1048576)
def OpenSpec.upto (s : _root_.Go.ChangeSpec) : _root_.Go.OpenSpec := { _root_.Go.OpenSpec.ofChange s with cond := some uptoSmall }

/-- 'foolscaplaw5.ClassTells', WHERE WHAT IT READS IS OF BULK AT MOST 1048576: true; the input reads as it did. -/
def classTellsUptoRow : OpenClaim := { program := "ytbckfcndkeoogaa", sum := "b457ecf5f9b97bff422fc12305378a2d0ff10f10e789e259ef6550adcb73f7ea", func := "foolscap/foolscaplaw5.ClassTells", spec := "classTells", apart := false, narrowed := true }
def ClassTellsUptoSaid : Prop := classTellsUptoRow.holds Try.pinned (OpenSpec.upto classTellsSpec)

/-- 'foolscaplaw5.ClassClamps', WHERE WHAT IT READS IS OF BULK AT MOST 1048576: true; the input reads as it did. -/
def classClampsUptoRow : OpenClaim := { program := "ytbckfcndkeoogaa", sum := "b457ecf5f9b97bff422fc12305378a2d0ff10f10e789e259ef6550adcb73f7ea", func := "foolscap/foolscaplaw5.ClassClamps", spec := "classClamps", apart := false, narrowed := true }
def ClassClampsUptoSaid : Prop := classClampsUptoRow.holds Try.pinned (OpenSpec.upto classClampsSpec)

/-- 'foolscaplaw5.ClassSame', WHERE WHAT IT READS IS OF BULK AT MOST 1048576: true; the input reads as it did. -/
def classSameUptoRow : OpenClaim := { program := "ytbckfcndkeoogaa", sum := "b457ecf5f9b97bff422fc12305378a2d0ff10f10e789e259ef6550adcb73f7ea", func := "foolscap/foolscaplaw5.ClassSame", spec := "classSame", apart := false, narrowed := true }
def ClassSameUptoSaid : Prop := classSameUptoRow.holds Try.pinned (OpenSpec.upto classSameSpec)

/-- 'foolscaplaw5.ClassFirst', WHERE WHAT IT READS IS OF BULK AT MOST 1048576: true; the input reads as it did. -/
def classFirstUptoRow : OpenClaim := { program := "ytbckfcndkeoogaa", sum := "b457ecf5f9b97bff422fc12305378a2d0ff10f10e789e259ef6550adcb73f7ea", func := "foolscap/foolscaplaw5.ClassFirst", spec := "classFirst", apart := false, narrowed := true }
def ClassFirstUptoSaid : Prop := classFirstUptoRow.holds Try.pinned (OpenSpec.upto classFirstSpec)

/-- 'foolscaplaw5.ClassInside', WHERE WHAT IT READS IS OF BULK AT MOST 1048576: true; the input reads as it did. -/
def classInsideUptoRow : OpenClaim := { program := "ytbckfcndkeoogaa", sum := "b457ecf5f9b97bff422fc12305378a2d0ff10f10e789e259ef6550adcb73f7ea", func := "foolscap/foolscaplaw5.ClassInside", spec := "classInside", apart := false, narrowed := true }
def ClassInsideUptoSaid : Prop := classInsideUptoRow.holds Try.pinned (OpenSpec.upto classInsideSpec)

end Rows
end Go.Proofs.Ytbckfcndkeoogaa
