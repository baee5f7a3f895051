/-
  The law IndexTyped, walked.
-/
import Derived.Test.YtndfbjpgbpcimaaLRel
set_option linter.unusedVariables false
namespace Go.Proofs.Ytndfbjpgbpcimaa.LTyped
open Go Go.RowKit Go.Proofs.Ytndfbjpgbpcimaa.Vk Go.Proofs.Ytndfbjpgbpcimaa.Lm Go.Proofs.Ytndfbjpgbpcimaa.Lx Go.Proofs.Ytndfbjpgbpcimaa.Str Go.Shelf

theorem long (s : ByteArray) (lb : Option Addr) (n lc : Nat) (w : World) (hs : s.size ≤ 140737488355328) (hl : n ≤ 9223372036854775807) (h : 120 < s.size ∨ 20 < n) :
    Calls Try.prog 5 #[.string s, .slice lb n lc] w fun e w' => e = .returned (.bool true) ∧ Below w.heap.size w w' := by
  go_enter Try.func5, Try.ntmps5
  by_cases h1 : 120 < s.size
  · have hd : decide (120 < (s.size : Int)) = true := by simp; omega
    go_wp2_with (go_at_call 8; refine (known_any _).mono ?_; rintro e w1 ⟨rfl, hb⟩)
    go_ret
    exact ⟨rfl, hb⟩
  · have h2 : 20 < n := by omega
    have hd : decide (120 < (s.size : Int)) = false := by simp; omega
    have hd2 : decide (20 < (n : Int)) = true := by simp; omega
    go_wp2_with (go_at_call 8; refine (known_any _).mono ?_; rintro e w1 ⟨rfl, hb⟩)
    go_ret
    exact ⟨rfl, hb⟩

theorem type_list (T : List UInt8) (i : Nat) (h : i < T.length) : (T.take i).take i ++ (T.take (i + 1)).drop i ++ (T.take i).drop i = T.take (i + 1) := by
  have := List.take_append_drop i (T.take (i + 1))
  rw [List.take_take, show min i (i + 1) = i by omega] at this
  rw [List.take_take, Nat.min_self, this, List.drop_eq_nil_of_le (by rw [List.length_take]; omega), List.append_nil]

set_option maxHeartbeats 2000000 in
set_option maxRecDepth 100000 in
theorem short (s : ByteArray) (lb : Option Addr) (n lc : Nat) (zs : List Int) (w : World) (hsrc : SrcV w 1 (.slice lb n lc) n (zs.map (.int .u8))) (hz : ∀ z ∈ zs, (Lit.int .u8 z).wf = true) (h1 : s.size ≤ 120) (h2 : n ≤ 20) :
    Calls Try.prog 5 #[.string s, .slice lb n lc] w fun e w' => e = .returned (.bool true) ∧ Below w.heap.size w w' := by
  have hd : decide (120 < (s.size : Int)) = false := by simp; omega
  have hd2 : decide (20 < (n : Int)) = false := by simp; omega
  have hsl := size_str s
  go_enter Try.func5, Try.ntmps5
  go_wp2_with (go_at_call 8; refine (known_any _).mono ?_; rintro e w1 ⟨rfl, hb1⟩)
  refine (new_any ⟨#[]⟩ w1 (by decide)).mono ?_
  rintro e w2 ⟨p, F, rfl, hi, hb2⟩
  have hR0 : IRel w p (s.data.toList.take 0) w2 := ⟨hb1.trans (hb2.mono hb1.size), F, by rw [List.take_zero]; exact hi.mono hb1.size⟩
  have HR0 := Lib.hid hR0
  clear hi hb1 hb2 hR0
  go_wp2_with fail
  go_loopw [6] (fun u6 wr => ∃ i : Nat, i ≤ s.size ∧ u6 = .int .i64 i ∧ Hid (IRel w p (s.data.toList.take i) wr)) (fun u6 _ => s.size - (RowKit.intOf u6).toNat)
  case atStart => exact ⟨0, Nat.zero_le _, rfl, HR0⟩
  case round =>
    obtain ⟨i, hin, rfl, hR⟩ := hrel
    by_cases hlt : i < s.size
    · obtain ⟨hb, F', hi⟩ := hR.out
      have hss := ext_list s i (i + 1)
      have hs1 : (s.extract i (i + 1)).size = 1 := by rw [← size_str, hss]; simp; omega
      have htl : (s.data.toList.take i).length = i := by rw [List.length_take]; omega
      have hins := insert_yes hi i (s.extract i (i + 1)) (by omega) (by omega)
      rw [hss, type_list _ _ (by omega)] at hins
      have hd3 : decide ((i : Int) < s.size) = true := by simp; omega
      have hw_5 : IntKind.i64.wrap ((i : Int) + 1) = (i : Int) + 1 := by rw [IntKind.wrap_i64]; omega
      have htn : ((i : Int) + 1).toNat = i + 1 := by omega
      have hl0 : (0 : Int) ≤ (i : Int) + 1 := by omega
      have hl1 : (i : Int) + 1 ≤ s.size := by omega
      have HT := Lib.hid (And.intro hb hi)
      clear hb hi hss htl
      go_wp2_with fail
      refine hins.mono ?_
      rintro e w3 ⟨rfl, hc3⟩
      have HR3 := Lib.hid (IRel.change HT.out.1 HT.out.2 hc3)
      clear hc3 hins
      go_wp2
      go_roundw
      case rel => exact ⟨i + 1, by omega, by go_num, HR3⟩
      case measure => simp [RowKit.intOf]; omega
    · obtain rfl : i = s.size := by omega
      have hd3 : decide ((s.size : Int) < s.size) = false := by simp
      have hRs : IRel w p s.data.toList wr := by have := hR.out; rwa [← hsl, List.take_length] at this
      have hwh := hRs.whole s (by omega)
      clear hRs
      go_wp2_with fail
      refine hwh.mono ?_
      rintro e w4 ⟨rfl, hR4⟩
      have HR4 := Lib.hid hR4
      clear hR4 hwh
      go_wp2_with fail
      go_loopw [7, 8] (fun u7 u8 wr => ∃ (j : Nat) (u : ByteArray), j ≤ n ∧ u.size ≤ 120 ∧ u7 = .string u ∧ u8 = .int .i64 j ∧ Hid (IRel w p u.data.toList wr)) (fun _ u8 _ => n - (RowKit.intOf u8).toNat)
      case atStart => exact ⟨0, s, Nat.zero_le _, h1, rfl, rfl, HR4⟩
      case round =>
        obtain ⟨j, u, hj, hu, rfl, rfl, hR⟩ := hrel
        have hul := size_str u
        by_cases hgo : j < n ∧ 0 < u.size
        · obtain ⟨hjn, hu0⟩ := hgo
          have hzl : zs.length = n := by have := hsrc.1; simpa using this
          have hjz : j < zs.length := by omega
          obtain ⟨b, o, rfl, hcell, hnc, -⟩ := hsrc.at (j := j) (u := .int .u8 zs[j]) (by rw [List.getElem?_map, List.getElem?_eq_getElem hjz]; rfl)
          have hzw := hz _ (List.getElem_mem hjz)
          generalize zs[j] = z at hcell hzw
          have hzr : 0 ≤ z ∧ z ≤ 255 := by simpa [Lit.wf, IntKind.min, IntKind.max, IntKind.signed, IntKind.bits] using hzw
          obtain ⟨hz0, hz1⟩ := hzr
          obtain ⟨hb, F', hi⟩ := hR.out
          have hcw : wr.cell? ⟨b, o + j, none⟩ = some (.int .u8 z) := (Fr.ofBelow hb (fun _ => False)).cell hcell (by simp)
          obtain ⟨k, hk⟩ : ∃ k : Nat, (k : Int) = z % (u.size : Int) := ⟨(z % (u.size : Int)).toNat, Int.toNat_of_nonneg (Int.emod_nonneg _ (by omega))⟩
          have hku : k < u.size := by have := Int.emod_lt_of_pos z (b := (u.size : Int)) (by omega); omega
          have hmd : z % (u.size : Int) = (k : Int) := hk.symm
          have hnz : ((u.size : Int) == 0) = false := beq_eq_false_iff_ne.2 (by omega)
          have hdel := delete_yes hi k 1 (by omega) (by omega)
          have hw_2 : IntKind.i64.wrap z = z := by rw [IntKind.wrap_i64]; omega
          have hw_3 : IntKind.i64.wrap ((k : Int) + 1) = (k : Int) + 1 := by rw [IntKind.wrap_i64]; omega
          have hw_4 : IntKind.i64.wrap ((j : Int) + 1) = (j : Int) + 1 := by rw [IntKind.wrap_i64]; omega
          have hdj : decide ((j : Int) < n) = true := decide_eq_true (by omega)
          have hdu : decide (0 < (u.size : Int)) = true := decide_eq_true (by omega)
          have hj0 : (0 : Int) ≤ (j : Int) := by omega
          have hj1 : (j : Int) < (n : Int) := by omega
          have hpq : (k : Int) + 1 ≤ u.size := by omega
          have hpq0 : (0 : Int) ≤ (k : Int) + 1 := by omega
          have hpqn : ((k : Int) + 1).toNat = k + 1 := by omega
          have HT := Lib.hid (And.intro hb hi)
          clear hk hb hi hcell hzw
          go_wp2_with fail
          try rw [hmd]
          refine hdel.mono ?_
          rintro e w5 ⟨rfl, hc5⟩
          have hR5 := IRel.change HT.out.1 HT.out.2 hc5
          clear hc5 hdel hcw hmd
          go_wp2_with fail
          go_quiet (fail)
          obtain ⟨v, hv⟩ : ∃ v, v = u.extract 0 k ++ u.extract (k + 1) u.size := ⟨_, rfl⟩
          have hvl : v.data.toList = u.data.toList.take k ++ u.data.toList.drop (k + 1) := by rw [hv, Str.cut_list]
          have hvs : v.size ≤ 120 := by rw [← size_str v, hvl]; simp; omega
          rw [← hv]
          rw [← hvl] at hR5
          have HR5 := Lib.hid (hR5.drewN nq)
          clear hR5 hv hvl
          go_wp2
          go_roundw
          case rel => exact ⟨j + 1, v, by omega, hvs, rfl, by go_num, HR5⟩
          case measure => simp [RowKit.intOf]; omega
        · have hwh := hR.out.whole u (by omega)
          by_cases hjn : j < n
          · have hdj : decide ((j : Int) < n) = true := decide_eq_true (by omega)
            have hdu : decide (0 < (u.size : Int)) = false := decide_eq_false (by omega)
            go_wp2_with fail
            refine hwh.mono ?_
            rintro e w6 ⟨rfl, hR6⟩
            have HR6 := Lib.hid hR6
            clear hR6 hwh
            go_wp2
            go_ret
            exact ⟨rfl, HR6.out.1⟩
          · have hdj : decide ((j : Int) < n) = false := decide_eq_false (by omega)
            go_wp2_with fail
            refine hwh.mono ?_
            rintro e w6 ⟨rfl, hR6⟩
            have HR6 := Lib.hid hR6
            clear hR6 hwh
            go_wp2
            go_ret
            exact ⟨rfl, HR6.out.1⟩

theorem walk (s : ByteArray) (lb : Option Addr) (n lc : Nat) (zs : List Int) (w : World) (hs : s.size ≤ 140737488355328) (hsrc : SrcV w 1 (.slice lb n lc) n (zs.map (.int .u8))) (hz : ∀ z ∈ zs, (Lit.int .u8 z).wf = true) :
    Calls Try.prog 5 #[.string s, .slice lb n lc] w fun e w' => e = .returned (.bool true) ∧ Below w.heap.size w w' := by
  by_cases h : 120 < s.size ∨ 20 < n
  · exact long s lb n lc w hs (by have := hsrc.2.2.1; unfold maxLen at this; omega) h
  · exact short s lb n lc zs w hsrc hz (by omega) (by omega)
end Go.Proofs.Ytndfbjpgbpcimaa.LTyped
