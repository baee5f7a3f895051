/-
  Package wordobj: where a run ends (finish).
-/
import Derived.Test.YtnngcminomooeaaOk
set_option linter.unusedVariables false
set_option linter.unusedSimpArgs false
set_option maxRecDepth 100000
namespace Go.Proofs.Ytnngcminomooeaa.Wo
open Go Go.RowKit Go.Proofs.Ytnngcminomooeaa.Vk Go.Proofs.Ytnngcminomooeaa.Str Go.Proofs.Ytnngcminomooeaa.Ln Go.Proofs.Ytnngcminomooeaa.Cl Go.Proofs.Ytnngcminomooeaa.Mv
attribute [local go_sem] Oper.semAt_some

/-- The run from f on ends at t. -/
def Nx (s : ByteArray) (b : Bool) (f t : Nat) : Prop := f < t ∧ t ≤ s.size ∧ (∀ j, f < j → j < t → kl s b j = kl s b f) ∧ (t = s.size ∨ kl s b t ≠ kl s b f)
theorem of_kl (s : ByteArray) (b : Bool) (j : Nat) (h : j < s.size) (w : World) : Calls Try.prog 40 #[.int .u8 (s[j]'h).toNat, .bool b] w fun e w' => e = .returned (.int .i64 (kl s b j)) ∧ w = w' := by
  have := of_any (s[j]'h).toNat b w
  rw [kl_at] at this
  exact this
theorem of5_kl (s : ByteArray) (b : Bool) (j : Nat) (h : j < s.size) (w : World) : Calls Try.prog 21 #[.int .u8 (s[j]'h).toNat, .bool b] w fun e w' => e = .returned (.int .i64 (kl s b j)) ∧ w = w' := by
  have := of5_any (s[j]'h).toNat b w
  rw [kl_at] at this
  exact this

end Go.Proofs.Ytnngcminomooeaa.Wo
