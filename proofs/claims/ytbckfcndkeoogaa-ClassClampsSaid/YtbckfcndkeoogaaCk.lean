/-
  The chapter's examples (the help `known` of layer 5's laws).
-/
import Derived.Test.YtbckfcndkeoogaaCl
set_option linter.unusedVariables false
set_option linter.unusedSimpArgs false
set_option maxRecDepth 100000
namespace Go.Proofs.Ytbckfcndkeoogaa.Cl
open Go Go.RowKit Go.Proofs.Ytbckfcndkeoogaa.Vk Go.Proofs.Ytbckfcndkeoogaa.Str Go.Proofs.Ytbckfcndkeoogaa.Ln
attribute [local go_sem] Oper.semAt_some

def sAb : ByteArray := ⟨#[97, 98]⟩
theorem ss_one (w : World) (s : ByteArray) (t : TypeId) : Ss (w.alloc (.cells #[.string s] t)) (some ⟨w.heap.size, 0, none⟩) 1 1 [s] :=
  SrcV.lit w #[.string s] t 1 rfl (by simp [Value.oneCell']) (by simp [maxLen])

theorem known_any (w : World) : Calls Try.prog 8 #[] w fun e w' => e = .returned (.bool true) ∧ Below w.heap.size w w' := by
  have h1 := first_any ⟨#[32, 32, 97]⟩ w (by decide)
  rw [show ((fst ⟨#[32, 32, 97]⟩ : Nat) : Int) = 2 from by decide +kernel] at h1
  have h2 := of_any 97 false w
  rw [show cls 97 false = 1 from by decide +kernel] at h2
  have h3 := of_any 43 false w
  rw [show cls 43 false = 2 from by decide +kernel] at h3
  have h4 := of_any 43 true w
  rw [show cls 43 true = 1 from by decide +kernel] at h4
  have h5 := of_any 32 true w
  rw [show cls 32 true = 0 from by decide +kernel] at h5
  have h6 := clamp_any _ 1 1 [⟨#[97, 98]⟩] 4 9 false _ (ss_one w ⟨#[97, 98]⟩ 9) (fun s hs => by rw [List.mem_singleton.1 hs]; decide)
  rw [show ((clL [⟨#[97, 98]⟩] 4 : Nat) : Int) = 0 from by decide +kernel, show ((clC [⟨#[97, 98]⟩] 4 9 false : Nat) : Int) = 1 from by decide +kernel] at h6
  go_enter Try.func8, Try.ntmps8
  go_wp2_with fail
  refine h1.mono ?_
  rintro e w' ⟨rfl, rfl⟩
  clear h1
  go_wp2_with fail
  refine h2.mono ?_
  rintro e w' ⟨rfl, rfl⟩
  clear h2
  go_wp2_with fail
  refine h3.mono ?_
  rintro e w' ⟨rfl, rfl⟩
  clear h3
  go_wp2_with fail
  refine h4.mono ?_
  rintro e w' ⟨rfl, rfl⟩
  clear h4
  go_wp2_with fail
  refine h5.mono ?_
  rintro e w' ⟨rfl, rfl⟩
  clear h5
  go_wp2_with fail
  refine h6.mono ?_
  rintro e w1 ⟨rfl, hb1⟩
  clear h6
  have hb01 : Below w.heap.size w w1 := ((Below.refl _ w).alloc (Nat.le_refl _) _).trans (hb1.mono (by simp))
  have hz1 := hb01.size
  have HB1 := Lib.hid hb01
  clear hb1 hb01
  have h7 := size_any _ 1 1 [⟨#[97, 98]⟩] _ (ss_one w1 ⟨#[97, 98]⟩ 9) (by decide)
  rw [show ((tz [⟨#[97, 98]⟩] : Nat) : Int) = 3 from by decide +kernel] at h7
  go_wp2_with fail
  refine h7.mono ?_
  rintro e w' ⟨rfl, rfl⟩
  clear h7
  obtain ⟨w2, hw2⟩ : ∃ w2, w2 = w1.alloc (.cells #[.string ⟨#[97, 98]⟩] 9) := ⟨_, rfl⟩
  have hb02 : Below w.heap.size w w2 := by rw [hw2]; exact HB1.out.alloc hz1 _
  rw [← hw2]
  have hz2 := hb02.size
  have HB2 := Lib.hid hb02
  clear hw2 hb02
  have s8 : Ss ((w2.alloc (.cells #[.string ⟨#[97]⟩] 9)).alloc (.cells #[.string ⟨#[98]⟩] 9)) (some ⟨w2.heap.size, 0, none⟩) 1 1 [⟨#[97]⟩] := SrcV.below (ss_one w2 ⟨#[97]⟩ _) ((Below.refl _ _).alloc (Nat.le_refl _) _)
  have s9 := ss_one (w2.alloc (.cells #[.string ⟨#[97]⟩] 9)) ⟨#[98]⟩ 9
  have h8 := same_any _ 1 1 [⟨#[97]⟩] _ 1 1 [⟨#[98]⟩] _ s8 s9
  rw [show decide ([(⟨#[97]⟩ : ByteArray)] = [⟨#[98]⟩]) = false from by decide +kernel] at h8
  rw [show (w2.alloc (.cells #[.string ⟨#[97]⟩] 9)).heap.size = w2.heap.size + 1 from by simp] at h8
  clear s8 s9
  go_wp2_with fail
  refine h8.mono ?_
  rintro e w' ⟨rfl, m, rfl⟩
  clear h8
  go_wp2
  go_ret
  refine ⟨rfl, ?_⟩
  have hb : Below w.heap.size w ((w2.alloc (.cells #[.string ⟨#[97]⟩] 9)).alloc (.cells #[.string ⟨#[98]⟩] 9)) := (HB2.out.alloc hz2 _).alloc (by simp; omega) _
  exact ⟨hb.os, hb.tape, hb.output, hb.size, hb.block⟩

end Go.Proofs.Ytbckfcndkeoogaa.Cl
