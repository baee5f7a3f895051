/-
  The law IndexLines, walked.
-/
import Derived.Test.YtndfbjpgbpcimaaLk
set_option linter.unusedVariables false
namespace Go.Proofs.Ytndfbjpgbpcimaa.LLines
open Go Go.RowKit Go.Proofs.Ytndfbjpgbpcimaa.Vk Go.Proofs.Ytndfbjpgbpcimaa.Lm Go.Proofs.Ytndfbjpgbpcimaa.Lx Go.Shelf

/-- The sum of the sizes and breaks of the first j lines. -/
def sm (t : List UInt8) (j : Nat) : Nat := if j < (st t).length then at0 t j else t.length + 1
theorem sm_zero (t : List UInt8) : sm t 0 = 0 := by unfold sm; rw [if_pos (st_pos t), at0_zero]
theorem sm_succ (t : List UInt8) (j : Nat) (hj : j < (st t).length) : sm t (j + 1) = sm t j + (sz t j + 1) := by
  unfold sm sz
  rw [if_pos hj]
  have h1 := at0_bound t j hj
  split
  · next h => have := st_sorted t j (j + 1) (by omega) h; omega
  · omega
theorem sm_all (t : List UInt8) : sm t (st t).length = t.length + 1 := by unfold sm; rw [if_neg (by omega)]
theorem sm_le (t : List UInt8) (j : Nat) : sm t j ≤ t.length + 1 := by
  unfold sm
  split
  · next h => have := at0_bound t j h; omega
  · omega

theorem long (s : ByteArray) (w : World) (hs : s.size ≤ 140737488355328) (h : 400 < s.size) :
    Calls Try.prog 6 #[.string s] w fun e w' => e = .returned (.bool true) ∧ Below w.heap.size w w' := by
  go_enter Try.func6, Try.ntmps6
  go_wp2_with (go_at_call 8; refine (known_any _).mono ?_; rintro e w1 ⟨rfl, hb⟩)
  go_ret
  exact ⟨rfl, hb⟩

set_option maxHeartbeats 1000000 in
theorem short (s : ByteArray) (w : World) (h : s.size ≤ 400) :
    Calls Try.prog 6 #[.string s] w fun e w' => e = .returned (.bool true) ∧ Below w.heap.size w w' := by
  have hsl : s.data.toList.length = s.size := by rw [Array.length_toList]; rfl
  obtain ⟨t, ht⟩ : ∃ t, t = s.data.toList := ⟨_, rfl⟩
  go_enter Try.func6, Try.ntmps6
  go_wp2_with (go_at_call 8; refine (known_any _).mono ?_; rintro e w1 ⟨rfl, hb1⟩)
  refine (new_any s w1 (by omega)).mono ?_
  rintro e w2 ⟨p, F, rfl, hi, hb2⟩
  rw [← ht] at hi hsl
  have HB := Lib.hid (hb1.trans (hb2.mono hb1.size))
  have HI := Lib.hid hi
  have HTE := Lib.hid ht
  have hll := st_length_le t
  clear hi hb1 hb2 ht
  go_wp2
  go_loop [4, 5] (fun u4 u5 => ∃ i : Nat, i ≤ s.size ∧ u5 = .int .i64 i ∧ u4 = .int .i64 ((ln t i + 1 : Nat) : Int)) (fun u4 u5 => s.size - (RowKit.intOf u5).toNat)
  case atStart => exact ⟨0, Nat.zero_le _, rfl, by rw [ln_zero]; rfl⟩
  case round =>
    obtain ⟨i, hin, rfl, rfl⟩ := hrel
    have hlb : ln t i + 1 ≤ 1000 := by have := ln_lt t i; omega
    by_cases hlt : i < s.size
    · have hls := ln_succ t i (by omega)
      have hg : t[i]'(by omega) = s[i] := by
        have : ∀ (l : List UInt8) (hl : l = s.data.toList) (h : i < l.length), l[i] = s[i] := by intro l hl h; subst hl; rfl
        exact this t HTE.out _
      rw [hg] at hls
      by_cases h10 : s[i] = 10
      · have hcc : (((s[i]'hlt).toNat : Int) == 10) = true := by rw [h10]; rfl
        rw [if_pos h10] at hls
        have HLS := Lib.hid hls
        clear hls h10 hg
        go_wp2
        go_round
        case rel => exact ⟨i + 1, by omega, by go_num, by rw [HLS.out]; go_num⟩
        case measure => simp [RowKit.intOf] <;> omega
      · have hcc : (((s[i]'hlt).toNat : Int) == 10) = false := by
          rw [beq_eq_false_iff_ne]; intro h; apply h10; apply UInt8.toNat_inj.1; have : (10 : UInt8).toNat = 10 := rfl; omega
        rw [if_neg h10] at hls
        have HLS := Lib.hid hls
        clear hls h10 hg
        go_wp2
        go_round
        case rel => exact ⟨i + 1, by omega, by go_num, by rw [HLS.out]⟩
        case measure => simp [RowKit.intOf] <;> omega
    · obtain rfl : i = s.size := by omega
      have hla : ln t s.size + 1 = (st t).length := by rw [← hsl]; exact ln_all t
      rw [hla]
      go_wp2
      have hla' := Lib.hid hla
      have hlc : 1 ≤ (st t).length := st_pos t
      clear hla
      go_loop [6, 7] (fun u6 u7 => ∃ j : Nat, j ≤ (st t).length ∧ u7 = .int .i64 j ∧ u6 = .int .i64 (sm t j)) (fun u6 u7 => (st t).length - (RowKit.intOf u7).toNat)
      case atStart => exact ⟨0, Nat.zero_le _, rfl, by rw [sm_zero]; rfl⟩
      case round =>
        obtain ⟨j, hj, rfl, rfl⟩ := hrel
        have hsj := sm_le t j
        by_cases hjl : j < (st t).length
        · have hsu := sm_succ t j hjl
          have hsj2 := sm_le t (j + 1)
          have hsz := HI.out.size j hjl (by omega)
          have hln := HI.out.lines
          have HSU := Lib.hid hsu
          have hz : sz t j + 1 ≤ 401 := by omega
          clear hsu hsj2
          generalize hm1 : sm t (j + 1) = m1 at *
          have HM1 := Lib.hid hm1
          clear hm1
          generalize sm t j = m0 at *
          generalize sz t j = z0 at *
          have hw5 : IntKind.i64.wrap ((z0 : Int) + 1) = (z0 : Int) + 1 := by rw [IntKind.wrap_i64]; omega
          have hw6 : IntKind.i64.wrap ((m0 : Int) + ((z0 : Int) + 1)) = (m0 : Int) + ((z0 : Int) + 1) := by rw [IntKind.wrap_i64]; omega
          go_wp2_with fail
          refine hln.mono ?_
          rintro e w' ⟨rfl, rfl⟩
          go_wp2_with fail
          refine hsz.mono ?_
          rintro e w' ⟨rfl, rfl⟩
          go_wp2
          go_round
          case rel => exact ⟨j + 1, by omega, by go_num, by rw [HM1.out, HSU.out]; go_num⟩
          case measure => simp [RowKit.intOf] <;> omega
        · obtain rfl : j = (st t).length := by omega
          have hsa := sm_all t
          have hln := HI.out.lines
          have hle := HI.out.len
          rw [hsa]
          rw [hsl] at hle ⊢
          have hcc : ((((st t).length : Nat) : Int) == (((st t).length : Nat) : Int)) = true := beq_self_eq_true _
          go_wp2_with fail
          refine hln.mono ?_
          rintro e w' ⟨rfl, rfl⟩
          go_wp2_with fail
          refine hln.mono ?_
          rintro e w' ⟨rfl, rfl⟩
          go_wp2_with fail
          refine hle.mono ?_
          rintro e w' ⟨rfl, rfl⟩
          go_wp2
          go_ret
          exact ⟨rfl, HB.out⟩

theorem walk (s : ByteArray) (w : World) (hs : s.size ≤ 140737488355328) :
    Calls Try.prog 6 #[.string s] w fun e w' => e = .returned (.bool true) ∧ Below w.heap.size w w' := by
  by_cases h : 400 < s.size
  · exact long s w hs h
  · exact short s w (by omega)

end Go.Proofs.Ytndfbjpgbpcimaa.LLines
