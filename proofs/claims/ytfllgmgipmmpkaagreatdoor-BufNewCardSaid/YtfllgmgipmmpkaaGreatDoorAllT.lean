/-
  The table's iterator over its pieces has its contract.
-/
import Derived.Test.YtfllgmgipmmpkaaGreatDoorBytes
set_option linter.unusedVariables false
set_option linter.unusedSimpArgs false
set_option maxRecDepth 100000
namespace Go.Proofs.YtfllgmgipmmpkaaGreatDoor.Tb
open Go Go.RowKit Go.Proofs.YtfllgmgipmmpkaaGreatDoor.Vk Go.Shelf
open VecP (E TV)
attribute [local go_sem] Oper.semAt_some

/-- A piece as a string. -/
def Pc.str (B : Nat → List UInt8) (q : Pc) : ByteArray := ⟨(q.txt B).toArray⟩

theorem Fr.keep {S : Nat → Prop} {a b : Nat} {V V' : World} (h : Fr (fun k => S k ∨ a ≤ k) V V') {m : Nat} (hk : Keep b (b + m) V V') {j : Nat} (hj : j ≤ m) : Fr (fun k => (S k ∨ (a ≤ k ∧ k < b)) ∨ b + j ≤ k) V V' :=
  ⟨h.os, h.tape, h.output, h.size, fun k hlt hn => by
    by_cases hb : b ≤ k ∧ k < b + m
    · exact hk.same k hb.1 hb.2
    · refine h.block k hlt (fun e => e.elim (fun e => hn (.inl (.inl e))) (fun e => ?_))
      by_cases hkb : k < b
      · exact hn (.inl (.inr ⟨e, hkb⟩))
      · exact hn (.inr (by omega))⟩

theorem list_pairs (ps : List Pc) : ((List.range ps.length).map fun k => (k, ps.getD k ⟨0, 0, 0⟩)).map (·.2) = ps := by
  rw [List.map_map]
  apply List.ext_getElem
  · simp
  · intro i h1 h2
    simp at h1
    simp [List.getD_eq_getElem?_getD, h1]

theorem list_strs {α : Type} (ps : List Pc) (f : Pc → α) : ((List.range ps.length).map fun k => (k, ps.getD k ⟨0, 0, 0⟩)).map (fun x => f x.2) = ps.map f := by
  rw [show (fun x : Nat × Pc => f x.2) = f ∘ (·.2) from rfl, ← List.map_map, list_pairs]

section
variable {w : World} {base t p : Nat} {r : Option Nat} {b0 : Option Addr} {c0 : Nat} {l0 : List UInt8} {b1 : Option Addr} {c1 : Nat} {l1 : List UInt8} {ps : List Pc} {T : List UInt8} {most : Int} {edits used : Nat}

end
end Go.Proofs.YtfllgmgipmmpkaaGreatDoor.Tb
