/-
  Package words: the n-th of the places ahead of a place, counted backward (nthBefore).
-/
import Derived.Test.YtpdbfdhfonfbeaaZp
set_option linter.unusedVariables false
set_option linter.unusedSimpArgs false
set_option maxRecDepth 100000
namespace Go.Proofs.Ytpdbfdhfonfbeaa.Wd
open Go Go.RowKit Go.Proofs.Ytpdbfdhfonfbeaa.Vk Go.Proofs.Ytpdbfdhfonfbeaa.Str Go.Proofs.Ytpdbfdhfonfbeaa.Ln Go.Proofs.Ytpdbfdhfonfbeaa.Cl Go.Proofs.Ytpdbfdhfonfbeaa.Mv Go.Shelf
attribute [local go_sem] Oper.semAt_some

theorem rev_at {l : List P2} {k : Nat} (h0 : 1 ≤ k) (h : k ≤ l.length) : nthV l.reverse k = (l[l.length - k]'(by omega), true) := by
  unfold nthV
  rw [List.length_reverse, if_neg (by omega), List.getD_eq_getElem?_getD, List.getElem?_reverse (by omega), show l.length - 1 - (k - 1) = l.length - k by omega, List.getElem?_eq_getElem (by omega)]
  rfl
theorem wrap_id {x : Int} (h0 : -9223372036854775808 ≤ x) (h1 : x ≤ 9223372036854775807) : IntKind.i64.wrap x = x := by rw [IntKind.wrap_i64]; omega
theorem rev_no {l : List P2} {k : Nat} (h : l.length < k) : nthV l.reverse k = ((0, 0), false) := nthV_no (by rw [List.length_reverse]; exact h)

/-- What stands between the rounds. -/
def Bq (w Wi : World) (M D : Nat) (p : P2) (l : List P2) (V : World) : Prop :=
  Kn w Wi V ∧ PosAt V M p.1 p.2 ∧ PosAt V (M + 1) 0 0 ∧ GotP (M + 2) D l V ∧ ∀ q ∈ l, lp q p = true
theorem Bq.grown {w Wi : World} {M D B : Nat} {p : P2} {l : List P2} {A A' : World} {row : Option Nat} (h : Bq w Wi M D p l A) (hM : M + 3 ≤ B) (hB : w.heap.size ≤ B) (hg : A.grownBy A' row) (hr : ∀ r, row = some r → B ≤ r ∧ ∃ o : Obj, A.heap[r]? = some o ∧ o.isCells = false) : Bq w Wi M D p l A' := by
  obtain ⟨h1, h2, h3, h4, h5⟩ := h
  have hk : ∀ k, k < M + 3 → k < A.heap.size → A'.heap[k]? = A.heap[k]? := fun k hk hkA => hg.block k hkA (fun e => by have := (hr _ e.symm).1; omega)
  exact ⟨own_kn (α := P2) hB [] A A' row h1 hg hr, (hk _ (by omega) h2.lt).trans h2, (hk _ (by omega) h3.lt).trans h3, h4.grown (B := B) (by omega) hg hr, h5⟩
theorem Bq.below {w Wi : World} {M D : Nat} {p : P2} {l : List P2} {A A' : World} (h : Bq w Wi M D p l A) (hb : Below A.heap.size A A') : Bq w Wi M D p l A' :=
  ⟨h.1.trans (Fr.ofBelow hb _), h.2.1.below hb h.2.1.lt, h.2.2.1.below hb h.2.2.1.lt, h.2.2.2.1.below hb, h.2.2.2.2⟩

end Go.Proofs.Ytpdbfdhfonfbeaa.Wd
