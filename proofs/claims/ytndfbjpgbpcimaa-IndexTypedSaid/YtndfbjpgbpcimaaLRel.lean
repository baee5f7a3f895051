/-
  What stands in each round of a law over an index of lines.
-/
import Derived.Test.YtndfbjpgbpcimaaLw
import Derived.Test.YtndfbjpgbpcimaaStr
set_option linter.unusedVariables false
namespace Go.Proofs.Ytndfbjpgbpcimaa.Lx
open Go Go.RowKit Go.Proofs.Ytndfbjpgbpcimaa.Vk Go.Proofs.Ytndfbjpgbpcimaa.Lm Go.Shelf

/-- The index at p is the one of T. -/
def IRel (w : World) (p : Nat) (T : List UInt8) (V : World) : Prop := Below w.heap.size w V ∧ ∃ F, Idx V w.heap.size p F T

variable {w V V' : World} {p : Nat} {F : Nat → Prop} {T T' : List UInt8}

theorem IRel.change (hb : Below w.heap.size w V) (hi : Idx V w.heap.size p F T) (hc : IChanged V w.heap.size p F T' V') : IRel w p T' V' := by
  have hb' := hb.trans (hc.below hb.size (fun k hk => (hi.footLt k hk).1))
  obtain ⟨F', hi', -, -⟩ := hc
  exact ⟨hb', F', hi'⟩
theorem IRel.keep (h : IRel w p T V) (hb : Below V.heap.size V V') : IRel w p T V' := by
  obtain ⟨h1, F, h2⟩ := h
  exact ⟨h1.trans (hb.mono h1.size), F, h2.below hb⟩

theorem IRel.drewN (h : IRel w p T V) (n : Nat) : IRel w p T (V.drewN n) := by
  obtain ⟨h1, F, h2⟩ := h
  have hf := (Fr.refl (fun _ => False) V).drewN n
  exact ⟨h1.trans ((hf.below (Nat.le_refl _) (by simp)).mono h1.size), F, h2.fr hf (by simp)⟩

/-- A cell that is no part of the index stays. -/
theorem changed_cell (hc : IChanged V w.heap.size p F T' V') {k o : Nat} {u : Value} (hk : ¬ F k) (h : V.cell? ⟨k, o, none⟩ = some u) : V'.cell? ⟨k, o, none⟩ = some u := by
  obtain ⟨F', -, hf, -⟩ := hc
  exact hf.cell h hk

theorem IRel.whole (s : ByteArray) (h : IRel w p s.data.toList V) (hT : s.size ≤ 400000) :
    Calls Try.prog 10 #[.pointer (some ⟨p, 0, none⟩), .string s] V fun e w' => e = .returned (.bool true) ∧ IRel w p s.data.toList w' := by
  obtain ⟨h1, F, h2⟩ := h
  exact (whole_any s h2 hT).mono fun e w' ⟨he, hb⟩ => ⟨he, h1.trans (hb.mono h1.size), F, h2.below hb⟩

end Go.Proofs.Ytndfbjpgbpcimaa.Lx
