/-
  A store in a path, into a block of S. No program in sight.
-/
import Derived.Test.YtkddnknjjdenhaaQu
set_option linter.unusedVariables false
set_option linter.unusedSimpArgs false
set_option maxRecDepth 100000
namespace Go.Proofs.Ytkddnknjjdenhaa.Vs
open Go Go.RowKit Go.Proofs.Ytkddnknjjdenhaa.Vk
variable {S : Nat → Prop}
section
variable {P : Program} {l : List Oper} {a : Act} {w : World} {k : Nat}
/-- A store in a path, into a block of S. -/
theorem wpPath_put {L : Act → World → Prop} {r : Path} (hk : (l[k]?).isSome = true) (h : ∀ W, Below w.heap.size w W → ∃ W', Region.wanted (opOf l k) (yielded l.toArray a.tmps) = true ∧ (execOp a.eval (opOf l k)).run P W = .ok .skip W' ∧ Fr S W W' ∧
      wpPath S P l.toArray L r (a.put (opOf l k).dst undef) W') : wpPath S P l.toArray L ((k, 1) :: r) a w := fun W hW => by
  obtain ⟨W', h1, h2, h3, h4⟩ := h W hW
  exact gOp_skip (op_is hk) h1 h2 ⟨h3, h4⟩
end
end Go.Proofs.Ytkddnknjjdenhaa.Vs
