/-
  The document's Starts and Ends.
-/
import Derived.Test.YthlneojhkhhmbaaZp
set_option linter.unusedVariables false
set_option linter.unusedSimpArgs false
set_option maxRecDepth 100000
namespace Go.Proofs.Ythlneojhkhhmbaa.Wd
open Go Go.RowKit Go.Proofs.Ythlneojhkhhmbaa.Vk Go.Proofs.Ythlneojhkhhmbaa.Str Go.Proofs.Ythlneojhkhhmbaa.Ln Go.Proofs.Ythlneojhkhhmbaa.Cl Go.Proofs.Ythlneojhkhhmbaa.Mv
attribute [local go_sem] Oper.semAt_some

/-- A row of N places of one's own, made behind w. -/
def Own (w : World) (L : List P2) (N : Nat) (b : Option Addr) (cc : Nat) (W : World) : Prop := L.length = N ∧ W.ownsRow w.heap.size EP 2 (.slice b N cc) N (flat L) ∧ Below w.heap.size w W
theorem Own.nil (w : World) : Own w [] 0 none 0 w := ⟨rfl, World.ownsRow_nil _ _ _ _, Below.refl _ _⟩
theorem Own.nil' {w W : World} (h : Below w.heap.size w W) : Own w [] 0 none 0 W := ⟨rfl, World.ownsRow_nil _ _ _ _, h⟩
theorem Own.built {w W : World} {L : List P2} {N : Nat} {b : Option Addr} {cc : Nat} (h : Own w L N b cc W) (O : Obj) : (W.alloc O).ownsRow w.heap.size EP 2 (.slice b N cc) N (flat L) :=
  ownsRow_fr h.2.1 ((Fr.refl (fun _ => False) W).alloc O) (by simp)
theorem Own.below {w W V : World} {L : List P2} {N : Nat} {b : Option Addr} {cc : Nat} (h : Own w L N b cc W) (hb : Below W.heap.size W V) : Own w L N b cc V :=
  ⟨h.1, ownsRow_fr h.2.1 (Fr.ofBelow hb (fun _ => False)) (by simp), h.2.2.trans (hb.mono h.2.2.size)⟩
theorem Own.app {w W V : World} {L : List P2} {N : Nat} {b ob : Option Addr} {cc oc : Nat} {x : P2} {O : Obj} (h : Own w L N b cc W) (hown : V.ownsRow w.heap.size EP 2 (.slice ob (N + 1) oc) (N + 1) (flat L ++ [.int .i64 x.1, .int .i64 x.2]))
    (hg : (W.alloc O).grownBy V (Value.slice b N cc).ownBlock) : Own w (L ++ [x]) (N + 1) ob oc V := by
  refine ⟨by rw [List.length_append, h.1]; rfl, ?_, ?_⟩
  · rw [flat_append, flat_one]; exact hown
  · have := h.2.2.size
    exact (h.2.2.alloc h.2.2.size O).grown hg (by simp; omega) (fun k e => (h.2.1.lt k e).1)
theorem Own.ps {w W : World} {L : List P2} {N : Nat} {b : Option Addr} {cc : Nat} (h : Own w L N b cc W) : Ps W b N cc L := Ps.ofOwn h.2.1

end Go.Proofs.Ythlneojhkhhmbaa.Wd
