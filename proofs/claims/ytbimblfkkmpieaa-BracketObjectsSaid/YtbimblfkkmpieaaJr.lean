/-
  Package pair: partner.
-/
import Derived.Test.YtbimblfkkmpieaaJp
import Derived.Test.YtbimblfkkmpieaaJb
set_option linter.unusedVariables false
set_option linter.unusedSimpArgs false
set_option maxRecDepth 100000
namespace Go.Proofs.Ytbimblfkkmpieaa.Pr
open Go Go.RowKit Go.Proofs.Ytbimblfkkmpieaa.Vk Go.Proofs.Ytbimblfkkmpieaa.Str Go.Proofs.Ytbimblfkkmpieaa.Ln Go.Proofs.Ytbimblfkkmpieaa.Cl Go.Proofs.Ytbimblfkkmpieaa.Mv Go.Proofs.Ytbimblfkkmpieaa.Wd Go.Shelf
attribute [local go_sem] Oper.semAt_some

/-- Two places held against one another. -/
theorem eq_p2 (p q : P2) (v : Bool) (h : decide (p = q) = v) (W : World) : (binOp .eql 24 (.agg #[.int .i64 p.1, .int .i64 p.2]) (.agg #[.int .i64 q.1, .int .i64 q.2])).run Try.prog W = .ok (.bool v) W := by
  have := Mv.eq_pos p.1 p.2 q.1 q.2 W
  rw [this, ← h]
  congr 2
  obtain ⟨a, b⟩ := p
  obtain ⟨c, d⟩ := q
  simp only [Prod.mk.injEq]
  by_cases h1 : a = c
  · by_cases h2 : b = d
    · simp [h1, h2]
    · simp [h1, h2]; omega
  · simp [h1]; omega
theorem hlt {V : World} {k : Nat} {o : Obj} (h : V.heap[k]? = some o) : k < V.heap.size := (Array.getElem?_eq_some_iff.1 h).1
/-- What stands between the rounds: the place at A, the answer's two variables behind it. -/
structure Pt (w Wi : World) (A : Nat) (p : P2) (V : World) : Prop where
  kn : Kn w Wi V
  pos : PosAt V A p.1 p.2
  res : PosAt V (A + 1) 0 0
  bl : V.heap[A + 2]? = some (.cells #[.bool false] 4 (0, 0))
theorem Pt.below {w Wi : World} {A B : Nat} {p : P2} {V V' : World} (h : Pt w Wi A p V) (hA : A + 3 ≤ B) (hw : w.heap.size ≤ B) (hb : Below B V V') : Pt w Wi A p V' :=
  ⟨h.kn.trans ⟨hb.os, hb.tape, hb.output, hb.size, fun k _ hn => hb.block k (by have : ¬ w.heap.size ≤ k := hn; omega)⟩, (hb.block _ (by omega)).trans h.pos, (hb.block _ (by omega)).trans h.res, (hb.block _ (by omega)).trans h.bl⟩

/-- The answer stands in its variables. -/
def PtX (A : Nat) (p : P2) (pre : List PP) (V : World) : Prop :=
  ∃ (p0 : List PP) (x : PP) (q : P2), pre = p0 ++ [x] ∧ ptn p p0 = none ∧ ptn p [x] = some q ∧ PosAt V (A + 1) q.1 q.2 ∧ V.heap[A + 2]? = some (.cells #[.bool true] 4 (0, 0))

end Go.Proofs.Ytbimblfkkmpieaa.Pr
