/-
  A region that draws its order, whose operations only read and whose callees only read or make new memory, walked once, in the order of the text: Quiet's theorem at the class of the worlds in which nothing old has changed. No program in sight.
-/
import Derived.Test.YtkddnknjjdenhaaKit
import Derived.BigQuiet
import Derived.WalkSpells
import Derived.Deep.QuietTactic
set_option linter.unusedVariables false
set_option linter.unusedSimpArgs false
set_option maxRecDepth 100000
namespace Go.Proofs.Ytkddnknjjdenhaa.Vk
open Go Go.RowKit

/-- The worlds in which all that lies in w is as it was. -/
structure Gr (w : World) where
  W : World
  below : Below w.heap.size w W
instance grNonempty (w : World) : Nonempty (Gr w) := ⟨⟨w, Below.refl _ w⟩⟩
theorem Gr.cell {w : World} {a : Addr} {v : Value} (h : w.cell? a = some v) (x : Gr w) : x.W.cell? a = some v := cell_later x.below h

theorem wp_region_grow {P : Program} {id : Nat} {Q : Exit → Act → World → Prop} {a : Act} {w : World} {l : List Oper} (hm : P.follows .mixedOrders = true) (hB : Region.lexB .any l.toArray = true)
    (h : wpQuiet P l.toArray (fun W => ∃ x : Gr w, W = x.W) (fun a' => ∀ W, (∃ x : Gr w, W = x.W) → Q .normal a' W) l a) : (Code.region id l.toArray true).wp P Q a w :=
  wp_region_quiet (C := fun W => ∃ x : Gr w, W = x.W) hm hB ⟨⟨w.drew, (Below.refl _ w).drew⟩, rfl⟩ (by simpa using h)

/-- A contract, met in such a world. -/
theorem Calls.grow_of {P : Program} {f : FuncId} {args : Array Value} {w : World} {x : Gr w} {v : Value}
    (h : Calls P f args x.W fun e W => e = .returned v ∧ Below x.W.heap.size x.W W) : Calls P f args x.W fun e W => e = .returned v ∧ ∃ y : Gr w, W = y.W :=
  h.mono fun _ W ⟨he, hb⟩ => ⟨he, ⟨W, x.below.trans (hb.mono x.below.size)⟩, rfl⟩
theorem Calls.grow_of_same {P : Program} {f : FuncId} {args : Array Value} {w : World} {x : Gr w} {v : Value}
    (h : Calls P f args x.W fun e W => e = .returned v ∧ x.W = W) : Calls P f args x.W fun e W => e = .returned v ∧ ∃ y : Gr w, W = y.W :=
  h.mono fun _ W ⟨he, hb⟩ => ⟨he, x, hb.symm⟩
end Go.Proofs.Ytkddnknjjdenhaa.Vk
