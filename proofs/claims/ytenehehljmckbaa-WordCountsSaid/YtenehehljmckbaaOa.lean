/-
  Package wordobj: where a run ends (finish).
-/
import Derived.Test.YtenehehljmckbaaOk
set_option linter.unusedVariables false
set_option linter.unusedSimpArgs false
set_option maxRecDepth 100000
namespace Go.Proofs.Ytenehehljmckbaa.Wo
open Go Go.RowKit Go.Proofs.Ytenehehljmckbaa.Vk Go.Proofs.Ytenehehljmckbaa.Str Go.Proofs.Ytenehehljmckbaa.Ln Go.Proofs.Ytenehehljmckbaa.Cl Go.Proofs.Ytenehehljmckbaa.Mv
attribute [local go_sem] Oper.semAt_some

/-- The run from f on ends at t. -/
def Nx (s : ByteArray) (b : Bool) (f t : Nat) : Prop := f < t ∧ t ≤ s.size ∧ (∀ j, f < j → j < t → kl s b j = kl s b f) ∧ (t = s.size ∨ kl s b t ≠ kl s b f)
theorem of_kl (s : ByteArray) (b : Bool) (j : Nat) (h : j < s.size) (w : World) : Calls Try.prog 29 #[.int .u8 (s[j]'h).toNat, .bool b] w fun e w' => e = .returned (.int .i64 (kl s b j)) ∧ w = w' := by
  have := of_any (s[j]'h).toNat b w
  rw [kl_at] at this
  exact this
theorem of5_kl (s : ByteArray) (b : Bool) (j : Nat) (h : j < s.size) (w : World) : Calls Try.prog 19 #[.int .u8 (s[j]'h).toNat, .bool b] w fun e w' => e = .returned (.int .i64 (kl s b j)) ∧ w = w' := by
  have := of5_any (s[j]'h).toNat b w
  rw [kl_at] at this
  exact this

set_option maxHeartbeats 2000000 in
theorem finish_any (s : ByteArray) (b : Bool) (f : Nat) (w : World) (hf : f < s.size) (hs : s.size ≤ 140737488355328) : Calls Try.prog 22 #[.string s, .int .i64 f, .bool b] w fun e w' =>
    ∃ t : Nat, e = .returned (.int .i64 t) ∧ Nx s b f t ∧ Below w.heap.size w w' := by
  obtain ⟨K, hK⟩ : ∃ K, K = f + 1 := ⟨_, rfl⟩
  have hw : IntKind.i64.wrap ((f : Int) + 1) = (K : Int) := by rw [IntKind.wrap_i64]; omega
  have HK := Lib.hid hK
  clear hK
  go_enter Try.func22, Try.ntmps22
  go_wp2
  clear hw
  go_loopw [7] (fun i wr => ∃ k : Nat, i = .int .i64 k ∧ Hid (f < k ∧ k ≤ s.size ∧ (∀ j, f < j → j < k → kl s b j = kl s b f) ∧ Below w.heap.size w wr)) (fun i _ => s.size - (RowKit.intOf i).toNat)
  case atStart => exact ⟨K, rfl, by have := HK.out; omega, by have := HK.out; omega, fun j h1 h2 => by have := HK.out; omega, Below.refl _ _⟩
  case round =>
    obtain ⟨k, rfl, hR⟩ := hrel
    by_cases hkn : k < s.size
    · have b0 : decide (k < s.size) = true := decide_eq_true hkn
      obtain ⟨M, hM⟩ : ∃ M, M = k + 1 := ⟨_, rfl⟩
      have hwM : IntKind.i64.wrap ((k : Int) + 1) = (M : Int) := by rw [IntKind.wrap_i64]; omega
      have HM := Lib.hid hM
      have b1 : (k : Int) < (s.size : Int) := by omega
      have b2 : (f : Int) < (s.size : Int) := by omega
      by_cases he : kl s b k = kl s b f
      · have HE := Lib.hid he
        have e1 : (kl s b k == kl s b f) = true := by rw [beq_iff_eq]; exact he
        clear hM he
        go_upto_region 2 with fail
        refine wp_region_grow (by kernel_rfl) (by kernel_rfl) ?_
        repeat (go_big_quiet_step (first | (go_at_call 29; exact Calls.grow_of_same (of_kl _ _ _ _ _))))
        refine wpQuiet_nil ?_
        rintro X5 ⟨⟨_, hX5⟩, rfl⟩
        go_wp2
        go_roundw
        case rel =>
          obtain ⟨h1, h2, h3, h4⟩ := hR.out
          refine ⟨M, rfl, by have := HM.out; omega, by have := HM.out; omega, fun j g1 g2 => ?_, h4.trans (hX5.mono h4.size)⟩
          have := HM.out
          by_cases e : j = k
          · subst e; exact HE.out
          · exact h3 j g1 (by omega)
        case measure => have := HM.out; simp [RowKit.intOf]; omega
      · have e1 : (kl s b k == kl s b f) = false := by rw [beq_eq_false_iff_ne]; exact he
        have HE := Lib.hid he
        clear hM he
        go_upto_region 2 with fail
        refine wp_region_grow (by kernel_rfl) (by kernel_rfl) ?_
        repeat (go_big_quiet_step (first | (go_at_call 29; exact Calls.grow_of_same (of_kl _ _ _ _ _))))
        refine wpQuiet_nil ?_
        rintro X5 ⟨⟨_, hX5⟩, rfl⟩
        go_wp2
        go_ret
        obtain ⟨h1, h2, h3, h4⟩ := hR.out
        exact ⟨k, rfl, ⟨h1, h2, h3, .inr HE.out⟩, h4.trans (hX5.mono h4.size)⟩
    · have b0 : decide (k < s.size) = false := decide_eq_false hkn
      have b1 : decide ((k : Int) < (s.size : Int)) = false := decide_eq_false (by omega)
      go_upto_region 2 with fail
      refine wp_region_grow (by kernel_rfl) (by kernel_rfl) ?_
      repeat (go_big_quiet_step (fail))
      refine wpQuiet_nil ?_
      rintro X5 ⟨⟨_, hX5⟩, rfl⟩
      go_wp2
      go_ret
      obtain ⟨h1, h2, h3, h4⟩ := hR.out
      exact ⟨k, rfl, ⟨h1, h2, h3, .inl (by omega)⟩, h4.trans (hX5.mono h4.size)⟩
end Go.Proofs.Ytenehehljmckbaa.Wo
