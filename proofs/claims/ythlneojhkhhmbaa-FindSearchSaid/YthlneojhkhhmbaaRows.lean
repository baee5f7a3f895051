/-
  No cell of these rows narrows 'for every input' (looked for: loops, veiled, ifaces, maps, wideKeys, modest, calm, conditions, laid).
  DERIVED. THE GIVEN ROWS OF THIS SEAT. 6 by the template 'for every input the law returns true; each argument reads behind the call as it read before'; 0 by the template 'total and deterministic' (their statements: YthlneojhkhhmbaaTotals.lean).
  GIVEN WITH THE SEED: the statements are not yours to turn. If you find one false, say at which input.
  Laid BY PROGRAM, IN A SANDBOX (cutbox-rows.mjs): the forced cells as the released guide's own fill.sh prints them over the translation 5103e30470bb29d4… (all of the seat's roots in one cut). By AI agents, Wed Nov 11 2026. No macro, syntax, notation, axiom, sorry.
-/
import Derived.Test.YthlneojhkhhmbaaChecked
import GoSem.Claim
import GoSem.ClaimJoined
import GoSem.ClaimMapViews
import Derived.JoinedTies
import Derived.KernelRfl
namespace Go.Proofs.Ythlneojhkhhmbaa
/- THE CELL 'sum', in the pinned program and in every row, IS THE sha256 OF THE DUMP (.gsa) THAT YthlneojhkhhmbaaProg.lean LOADS. Nothing in Lean hashes anything: it is a label: what it is worth is what the hold of that sum in a sandbox is worth. -/
noncomputable def Try.pinned : Pinned := { name := "ythlneojhkhhmbaa", sum := "5103e30470bb29d45d1570d943c3558f161a3bcc88d98075bb1ad9e45e2c1091", checked := Try.checked }
namespace Rows
def none {H : Type} : Left H := { results := [], args := [] }

/-- 'foolscaplaw12.FindAll': WHATEVER THE INPUT: true; the input reads as it did. -/
def findAllSpec : ChangeSpec := { name := "findAll", fn := fun _ => fun
  | [d1, d2, d3, d4, d5, d6] => { results := [.lit (.bool true)], args := [d1, d2, d3, d4, d5, d6] }
  | _ => none }
def findAllRow : OpenClaim := { program := "ythlneojhkhhmbaa", sum := "5103e30470bb29d45d1570d943c3558f161a3bcc88d98075bb1ad9e45e2c1091", func := "foolscap/foolscaplaw12.FindAll", spec := "findAll", unfollowed := true, recurses := true, apart := false }
def FindAllSaid : Prop := findAllRow.holds Try.pinned (OpenSpec.ofChange findAllSpec)

/-- ITS FALSE NEIGHBOUR: 'it returns false'. Refute it at one input. -/
def findAllWrong : ChangeSpec := { name := "findAll", fn := fun _ => fun
  | [d1, d2, d3, d4, d5, d6] => { results := [.lit (.bool false)], args := [d1, d2, d3, d4, d5, d6] }
  | _ => none }
def FindAllWrongFalsely : Prop := findAllRow.holds Try.pinned (OpenSpec.ofChange findAllWrong)

/-- 'foolscaplaw12.FindSearch': WHATEVER THE INPUT: true; the input reads as it did. -/
def findSearchSpec : ChangeSpec := { name := "findSearch", fn := fun _ => fun
  | [d1, d2, d3, d4, d5, d6, d7, d8] => { results := [.lit (.bool true)], args := [d1, d2, d3, d4, d5, d6, d7, d8] }
  | _ => none }
def findSearchRow : OpenClaim := { program := "ythlneojhkhhmbaa", sum := "5103e30470bb29d45d1570d943c3558f161a3bcc88d98075bb1ad9e45e2c1091", func := "foolscap/foolscaplaw12.FindSearch", spec := "findSearch", unfollowed := true, recurses := true, apart := false }
def FindSearchSaid : Prop := findSearchRow.holds Try.pinned (OpenSpec.ofChange findSearchSpec)

/-- ITS FALSE NEIGHBOUR: 'it returns false'. Refute it at one input. -/
def findSearchWrong : ChangeSpec := { name := "findSearch", fn := fun _ => fun
  | [d1, d2, d3, d4, d5, d6, d7, d8] => { results := [.lit (.bool false)], args := [d1, d2, d3, d4, d5, d6, d7, d8] }
  | _ => none }
def FindSearchWrongFalsely : Prop := findSearchRow.holds Try.pinned (OpenSpec.ofChange findSearchWrong)

/-- 'foolscaplaw12.FindRound': WHATEVER THE INPUT: true; the input reads as it did. -/
def findRoundSpec : ChangeSpec := { name := "findRound", fn := fun _ => fun
  | [d1, d2, d3, d4] => { results := [.lit (.bool true)], args := [d1, d2, d3, d4] }
  | _ => none }
def findRoundRow : OpenClaim := { program := "ythlneojhkhhmbaa", sum := "5103e30470bb29d45d1570d943c3558f161a3bcc88d98075bb1ad9e45e2c1091", func := "foolscap/foolscaplaw12.FindRound", spec := "findRound", unfollowed := true, recurses := true, apart := false }
def FindRoundSaid : Prop := findRoundRow.holds Try.pinned (OpenSpec.ofChange findRoundSpec)

/-- ITS FALSE NEIGHBOUR: 'it returns false'. Refute it at one input. -/
def findRoundWrong : ChangeSpec := { name := "findRound", fn := fun _ => fun
  | [d1, d2, d3, d4] => { results := [.lit (.bool false)], args := [d1, d2, d3, d4] }
  | _ => none }
def FindRoundWrongFalsely : Prop := findRoundRow.holds Try.pinned (OpenSpec.ofChange findRoundWrong)

/-- 'foolscaplaw12.FindWord': WHATEVER THE INPUT: true; the input reads as it did. -/
def findWordSpec : ChangeSpec := { name := "findWord", fn := fun _ => fun
  | [d1, d2, d3, d4] => { results := [.lit (.bool true)], args := [d1, d2, d3, d4] }
  | _ => none }
def findWordRow : OpenClaim := { program := "ythlneojhkhhmbaa", sum := "5103e30470bb29d45d1570d943c3558f161a3bcc88d98075bb1ad9e45e2c1091", func := "foolscap/foolscaplaw12.FindWord", spec := "findWord", unfollowed := true, recurses := true, apart := false }
def FindWordSaid : Prop := findWordRow.holds Try.pinned (OpenSpec.ofChange findWordSpec)

/-- ITS FALSE NEIGHBOUR: 'it returns false'. Refute it at one input. -/
def findWordWrong : ChangeSpec := { name := "findWord", fn := fun _ => fun
  | [d1, d2, d3, d4] => { results := [.lit (.bool false)], args := [d1, d2, d3, d4] }
  | _ => none }
def FindWordWrongFalsely : Prop := findWordRow.holds Try.pinned (OpenSpec.ofChange findWordWrong)

/-- 'foolscaplaw12.FindEach': WHATEVER THE INPUT: true; the input reads as it did. -/
def findEachSpec : ChangeSpec := { name := "findEach", fn := fun _ => fun
  | [d1, d2, d3, d4] => { results := [.lit (.bool true)], args := [d1, d2, d3, d4] }
  | _ => none }
def findEachRow : OpenClaim := { program := "ythlneojhkhhmbaa", sum := "5103e30470bb29d45d1570d943c3558f161a3bcc88d98075bb1ad9e45e2c1091", func := "foolscap/foolscaplaw12.FindEach", spec := "findEach", unfollowed := true, recurses := true, apart := false }
def FindEachSaid : Prop := findEachRow.holds Try.pinned (OpenSpec.ofChange findEachSpec)

/-- ITS FALSE NEIGHBOUR: 'it returns false'. Refute it at one input. -/
def findEachWrong : ChangeSpec := { name := "findEach", fn := fun _ => fun
  | [d1, d2, d3, d4] => { results := [.lit (.bool false)], args := [d1, d2, d3, d4] }
  | _ => none }
def FindEachWrongFalsely : Prop := findEachRow.holds Try.pinned (OpenSpec.ofChange findEachWrong)

/-- 'foolscaplaw12.FindWords': WHATEVER THE INPUT: true; the input reads as it did. -/
def findWordsSpec : ChangeSpec := { name := "findWords", fn := fun _ => fun
  | [d1, d2, d3] => { results := [.lit (.bool true)], args := [d1, d2, d3] }
  | _ => none }
def findWordsRow : OpenClaim := { program := "ythlneojhkhhmbaa", sum := "5103e30470bb29d45d1570d943c3558f161a3bcc88d98075bb1ad9e45e2c1091", func := "foolscap/foolscaplaw12.FindWords", spec := "findWords", unfollowed := true, recurses := true, apart := false }
def FindWordsSaid : Prop := findWordsRow.holds Try.pinned (OpenSpec.ofChange findWordsSpec)

/-- ITS FALSE NEIGHBOUR: 'it returns false'. Refute it at one input. -/
def findWordsWrong : ChangeSpec := { name := "findWords", fn := fun _ => fun
  | [d1, d2, d3] => { results := [.lit (.bool false)], args := [d1, d2, d3] }
  | _ => none }
def FindWordsWrongFalsely : Prop := findWordsRow.holds Try.pinned (OpenSpec.ofChange findWordsWrong)

/- THE SECOND FORM. 'bulk': how many values and letters a reading holds, each counted each time it is reached (what is shared counts as often as it is met; a slice's spare places count too). A statement '..UptoSaid' is the law's where the arguments, and the package variables that the reading takes, are together of bulk at most 1048576: NARROWER than '..Said'. Prove '..Said' where nothing that the law and all that it calls make is longer than what came in: it says more and counts as full. Else prove '..UptoSaid'. A law counts once. -/
mutual
def uptoBulk {H : Type} : DataW H → Nat
  | .lit (.string bytes) => bytes.length + 1
  | .lit _ => 1
  | .nil => 1
  | .ptr d => uptoBulk d + 1
  | .slice elems spare => uptoBulkAll elems + uptoBulkAll spare + 1
  | .agg parts => uptoBulkAll parts + 1
  | .iface _ d => uptoBulk d + 1
  | .map entries => uptoBulkEntries entries + 1
  | .held _ => 1
def uptoBulkAll {H : Type} : List (DataW H) → Nat
  | [] => 0
  | d :: r => uptoBulk d + uptoBulkAll r
def uptoBulkEntries {H : Type} : List (Lit × DataW H) → Nat
  | [] => 0
  | x :: r => uptoBulkEntry x + uptoBulkEntries r
def uptoBulkEntry {H : Type} : Lit × DataW H → Nat
  | (.string bytes, d) => bytes.length + uptoBulk d + 1
  | (_, d) => uptoBulk d + 1
 end
def uptoSmall : (H : Type) → List (DataW H) → Bool := fun _ ds => decide (uptoBulkAll ds ≤ 1048576)
def OpenSpec.upto (s : _root_.Go.ChangeSpec) : _root_.Go.OpenSpec := { _root_.Go.OpenSpec.ofChange s with cond := some uptoSmall }

/-- 'foolscaplaw12.FindAll', WHERE WHAT IT READS IS OF BULK AT MOST 1048576: true; the input reads as it did. -/
def findAllUptoRow : OpenClaim := { program := "ythlneojhkhhmbaa", sum := "5103e30470bb29d45d1570d943c3558f161a3bcc88d98075bb1ad9e45e2c1091", func := "foolscap/foolscaplaw12.FindAll", spec := "findAll", unfollowed := true, recurses := true, apart := false, narrowed := true }
def FindAllUptoSaid : Prop := findAllUptoRow.holds Try.pinned (OpenSpec.upto findAllSpec)

/-- 'foolscaplaw12.FindSearch', WHERE WHAT IT READS IS OF BULK AT MOST 1048576: true; the input reads as it did. -/
def findSearchUptoRow : OpenClaim := { program := "ythlneojhkhhmbaa", sum := "5103e30470bb29d45d1570d943c3558f161a3bcc88d98075bb1ad9e45e2c1091", func := "foolscap/foolscaplaw12.FindSearch", spec := "findSearch", unfollowed := true, recurses := true, apart := false, narrowed := true }
def FindSearchUptoSaid : Prop := findSearchUptoRow.holds Try.pinned (OpenSpec.upto findSearchSpec)

/-- 'foolscaplaw12.FindRound', WHERE WHAT IT READS IS OF BULK AT MOST 1048576: true; the input reads as it did. -/
def findRoundUptoRow : OpenClaim := { program := "ythlneojhkhhmbaa", sum := "5103e30470bb29d45d1570d943c3558f161a3bcc88d98075bb1ad9e45e2c1091", func := "foolscap/foolscaplaw12.FindRound", spec := "findRound", unfollowed := true, recurses := true, apart := false, narrowed := true }
def FindRoundUptoSaid : Prop := findRoundUptoRow.holds Try.pinned (OpenSpec.upto findRoundSpec)

/-- 'foolscaplaw12.FindWord', WHERE WHAT IT READS IS OF BULK AT MOST 1048576: true; the input reads as it did. -/
def findWordUptoRow : OpenClaim := { program := "ythlneojhkhhmbaa", sum := "5103e30470bb29d45d1570d943c3558f161a3bcc88d98075bb1ad9e45e2c1091", func := "foolscap/foolscaplaw12.FindWord", spec := "findWord", unfollowed := true, recurses := true, apart := false, narrowed := true }
def FindWordUptoSaid : Prop := findWordUptoRow.holds Try.pinned (OpenSpec.upto findWordSpec)

/-- 'foolscaplaw12.FindEach', WHERE WHAT IT READS IS OF BULK AT MOST 1048576: true; the input reads as it did. -/
def findEachUptoRow : OpenClaim := { program := "ythlneojhkhhmbaa", sum := "5103e30470bb29d45d1570d943c3558f161a3bcc88d98075bb1ad9e45e2c1091", func := "foolscap/foolscaplaw12.FindEach", spec := "findEach", unfollowed := true, recurses := true, apart := false, narrowed := true }
def FindEachUptoSaid : Prop := findEachUptoRow.holds Try.pinned (OpenSpec.upto findEachSpec)

/-- 'foolscaplaw12.FindWords', WHERE WHAT IT READS IS OF BULK AT MOST 1048576: true; the input reads as it did. -/
def findWordsUptoRow : OpenClaim := { program := "ythlneojhkhhmbaa", sum := "5103e30470bb29d45d1570d943c3558f161a3bcc88d98075bb1ad9e45e2c1091", func := "foolscap/foolscaplaw12.FindWords", spec := "findWords", unfollowed := true, recurses := true, apart := false, narrowed := true }
def FindWordsUptoSaid : Prop := findWordsUptoRow.holds Try.pinned (OpenSpec.upto findWordsSpec)

end Rows
end Go.Proofs.Ythlneojhkhhmbaa
