/-
  Package words: the places at which words begin and end, one by one (starts, ends).
-/
import Derived.Test.YtbimblfkkmpieaaZb
import Derived.Test.YtbimblfkkmpieaaRnd
set_option linter.unusedVariables false
set_option linter.unusedSimpArgs false
set_option maxRecDepth 100000
namespace Go.Proofs.Ytbimblfkkmpieaa.Wd
open Go Go.RowKit Go.Proofs.Ytbimblfkkmpieaa.Vk Go.Proofs.Ytbimblfkkmpieaa.Str Go.Proofs.Ytbimblfkkmpieaa.Ln Go.Proofs.Ytbimblfkkmpieaa.Cl Go.Proofs.Ytbimblfkkmpieaa.Mv Go.Shelf
attribute [local go_sem] Oper.semAt_some

def encp (x : P2) : Array Value := #[.agg #[.int .i64 x.1, .int .i64 x.2]]
/-- What a round may change: what is new. -/
abbrev Kn (w : World) (W W' : World) : Prop := Fr (fun k => w.heap.size ≤ k) W W'
theorem Kn.cell {w W V : World} {p : Addr} {v : Value} (hW : Below w.heap.size w W) (hF : Kn w W V) (hv : w.cell? p = some v) : V.cell? p = some v :=
  Fr.cell hF (cell_later hW hv) (fun e => by have : p.block < w.heap.size := World.block_lt_of_cell? w _ hv; have e' : w.heap.size ≤ p.block := e; omega)
theorem Kn.below {w W V : World} (hW : Below w.heap.size w W) (hF : Kn w W V) : Below w.heap.size w V :=
  hW.trans (Fr.below hF hW.size (fun k hk => hk))

end Go.Proofs.Ytbimblfkkmpieaa.Wd
