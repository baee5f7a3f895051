/-
  No cell of these rows narrows 'for every input' (looked for: loops, veiled, ifaces, maps, wideKeys, modest, calm, conditions, laid).
  DERIVED. THE GIVEN ROWS OF THIS SEAT. 3 by the template 'for every input the law returns true; each argument reads behind the call as it read before'; 0 by the template 'total and deterministic' (their statements: YtfcedllgidhnfaaTotals.lean).
  GIVEN WITH THE SEED: the statements are not yours to turn. If you find one false, say at which input.
  Laid BY PROGRAM, IN A SANDBOX (cutbox-rows.mjs): the forced cells as the released guide's own fill.sh prints them over the translation f2efec81565b796d… (all of the seat's roots in one cut). By AI agents, Wed Nov 11 2026. No macro, syntax, notation, axiom, sorry.
-/
import Derived.Test.YtfcedllgidhnfaaChecked
import GoSem.Claim
import GoSem.ClaimJoined
import GoSem.ClaimMapViews
import Derived.JoinedTies
import Derived.KernelRfl
namespace Go.Proofs.Ytfcedllgidhnfaa
/- THE CELL 'sum', in the pinned program and in every row, IS THE sha256 OF THE DUMP (.gsa) THAT YtfcedllgidhnfaaProg.lean LOADS. Nothing in Lean hashes anything: it is a label: what it is worth is what the hold of that sum in a sandbox is worth. -/
noncomputable def Try.pinned : Pinned := { name := "ytfcedllgidhnfaa", sum := "f2efec81565b796d56368badd662ddfade65383f17b485bba8e81a82593b473f", checked := Try.checked }
namespace Rows
def none {H : Type} : Left H := { results := [], args := [] }

/-- 'foolscaplaw16.QuotePairs': WHATEVER THE INPUT: true; the input reads as it did. -/
def quotePairsSpec : ChangeSpec := { name := "quotePairs", fn := fun _ => fun
  | [d1, d2, d3] => { results := [.lit (.bool true)], args := [d1, d2, d3] }
  | _ => none }
def quotePairsRow : OpenClaim := { program := "ytfcedllgidhnfaa", sum := "f2efec81565b796d56368badd662ddfade65383f17b485bba8e81a82593b473f", func := "foolscap/foolscaplaw16.QuotePairs", spec := "quotePairs", unfollowed := true, recurses := true, apart := false }
def QuotePairsSaid : Prop := quotePairsRow.holds Try.pinned (OpenSpec.ofChange quotePairsSpec)

/-- ITS FALSE NEIGHBOUR: 'it returns false'. Refute it at one input. -/
def quotePairsWrong : ChangeSpec := { name := "quotePairs", fn := fun _ => fun
  | [d1, d2, d3] => { results := [.lit (.bool false)], args := [d1, d2, d3] }
  | _ => none }
def QuotePairsWrongFalsely : Prop := quotePairsRow.holds Try.pinned (OpenSpec.ofChange quotePairsWrong)

/-- 'foolscaplaw16.QuoteObjects': WHATEVER THE INPUT: true; the input reads as it did. -/
def quoteObjectsSpec : ChangeSpec := { name := "quoteObjects", fn := fun _ => fun
  | [d1, d2, d3, d4, d5] => { results := [.lit (.bool true)], args := [d1, d2, d3, d4, d5] }
  | _ => none }
def quoteObjectsRow : OpenClaim := { program := "ytfcedllgidhnfaa", sum := "f2efec81565b796d56368badd662ddfade65383f17b485bba8e81a82593b473f", func := "foolscap/foolscaplaw16.QuoteObjects", spec := "quoteObjects", unfollowed := true, recurses := true, apart := false }
def QuoteObjectsSaid : Prop := quoteObjectsRow.holds Try.pinned (OpenSpec.ofChange quoteObjectsSpec)

/-- ITS FALSE NEIGHBOUR: 'it returns false'. Refute it at one input. -/
def quoteObjectsWrong : ChangeSpec := { name := "quoteObjects", fn := fun _ => fun
  | [d1, d2, d3, d4, d5] => { results := [.lit (.bool false)], args := [d1, d2, d3, d4, d5] }
  | _ => none }
def QuoteObjectsWrongFalsely : Prop := quoteObjectsRow.holds Try.pinned (OpenSpec.ofChange quoteObjectsWrong)

/-- 'foolscaplaw16.QuoteInside': WHATEVER THE INPUT: true; the input reads as it did. -/
def quoteInsideSpec : ChangeSpec := { name := "quoteInside", fn := fun _ => fun
  | [d1, d2, d3, d4] => { results := [.lit (.bool true)], args := [d1, d2, d3, d4] }
  | _ => none }
def quoteInsideRow : OpenClaim := { program := "ytfcedllgidhnfaa", sum := "f2efec81565b796d56368badd662ddfade65383f17b485bba8e81a82593b473f", func := "foolscap/foolscaplaw16.QuoteInside", spec := "quoteInside", unfollowed := true, recurses := true, apart := false }
def QuoteInsideSaid : Prop := quoteInsideRow.holds Try.pinned (OpenSpec.ofChange quoteInsideSpec)

/-- ITS FALSE NEIGHBOUR: 'it returns false'. Refute it at one input. -/
def quoteInsideWrong : ChangeSpec := { name := "quoteInside", fn := fun _ => fun
  | [d1, d2, d3, d4] => { results := [.lit (.bool false)], args := [d1, d2, d3, d4] }
  | _ => none }
def QuoteInsideWrongFalsely : Prop := quoteInsideRow.holds Try.pinned (OpenSpec.ofChange quoteInsideWrong)

/- THE SECOND FORM. 'bulk': how many values and letters a reading holds, each counted each time it is reached (what is shared counts as often as it is met; a slice's spare places count too). A statement '..UptoSaid' is the law's where the arguments, and the package variables that the reading takes, are together of bulk at most 1048576: NARROWER than '..Said'. Prove '..Said' where nothing that the law and all that it calls make is longer than what came in: it says more and counts as full. Else prove '..UptoSaid'. A law counts once. -/
mutual
def uptoBulk {H : Type} : DataW H → Nat
  | .lit (.string bytes) => bytes.length + 1
  | .lit _ => 1
  | .nil => 1
  | .ptr d => uptoBulk d + 1
  | .slice elems spare => uptoBulkAll elems + uptoBulkAll spare + 1
  | .agg parts => uptoBulkAll parts + 1
  | .iface _ d => uptoBulk d + 1
  | .map entries => uptoBulkEntries entries + 1
  | .held _ => 1
def uptoBulkAll {H : Type} : List (DataW H) → Nat
  | [] => 0
  | d :: r => uptoBulk d + uptoBulkAll r
def uptoBulkEntries {H : Type} : List (Lit × DataW H) → Nat
  | [] => 0
  | x :: r => uptoBulkEntry x + uptoBulkEntries r
def uptoBulkEntry {H : Type} : Lit × DataW H → Nat
  | (.string bytes, d) => bytes.length + uptoBulk d + 1
  | (_, d) => uptoBulk d + 1
 end
def uptoSmall : (H : Type) → List (DataW H) → Bool := fun _ ds => decide (uptoBulkAll ds ≤ 1048576)
def OpenSpec.upto (s : _root_.Go.ChangeSpec) : _root_.Go.OpenSpec := { _root_.Go.OpenSpec.ofChange s with cond := some uptoSmall }

/-- 'foolscaplaw16.QuotePairs', WHERE WHAT IT READS IS OF BULK AT MOST 1048576: true; the input reads as it did. -/
def quotePairsUptoRow : OpenClaim := { program := "ytfcedllgidhnfaa", sum := "f2efec81565b796d56368badd662ddfade65383f17b485bba8e81a82593b473f", func := "foolscap/foolscaplaw16.QuotePairs", spec := "quotePairs", unfollowed := true, recurses := true, apart := false, narrowed := true }
def QuotePairsUptoSaid : Prop := quotePairsUptoRow.holds Try.pinned (OpenSpec.upto quotePairsSpec)

/-- 'foolscaplaw16.QuoteObjects', WHERE WHAT IT READS IS OF BULK AT MOST 1048576: true; the input reads as it did. -/
def quoteObjectsUptoRow : OpenClaim := { program := "ytfcedllgidhnfaa", sum := "f2efec81565b796d56368badd662ddfade65383f17b485bba8e81a82593b473f", func := "foolscap/foolscaplaw16.QuoteObjects", spec := "quoteObjects", unfollowed := true, recurses := true, apart := false, narrowed := true }
def QuoteObjectsUptoSaid : Prop := quoteObjectsUptoRow.holds Try.pinned (OpenSpec.upto quoteObjectsSpec)

/-- 'foolscaplaw16.QuoteInside', WHERE WHAT IT READS IS OF BULK AT MOST 1048576: true; the input reads as it did. -/
def quoteInsideUptoRow : OpenClaim := { program := "ytfcedllgidhnfaa", sum := "f2efec81565b796d56368badd662ddfade65383f17b485bba8e81a82593b473f", func := "foolscap/foolscaplaw16.QuoteInside", spec := "quoteInside", unfollowed := true, recurses := true, apart := false, narrowed := true }
def QuoteInsideUptoSaid : Prop := quoteInsideUptoRow.holds Try.pinned (OpenSpec.upto quoteInsideSpec)

end Rows
end Go.Proofs.Ytfcedllgidhnfaa
