/-
  The law PieceTyped, walked.
-/
import Derived.Test.YtiknnepmbkohiaaPLaw
import Derived.LoopTactic
set_option linter.unusedVariables false
namespace Go.Proofs.Ytiknnepmbkohiaa.PTy
open Go Go.RowKit Go.Proofs.Ytiknnepmbkohiaa.Vk Go.Shelf Go.Proofs.Ytiknnepmbkohiaa.Tb
attribute [local go_sem] Oper.semAt_some

theorem long (s m : ByteArray) (at_ : Int) (w : World) (hs : s.size ≤ 140737488355328) (hm : m.size ≤ 140737488355328) (h : 100 < s.size ∨ 100 < m.size) :
    Calls Try.prog 5 #[.string s, .string m, .int .u8 at_] w fun e w' => e = .returned (.bool true) ∧ Below w.heap.size w w' := by
  by_cases h1 : 100 < s.size
  · have hd : decide (100 < (s.size : Int)) = true := by simp; omega
    clear h
    go_enter Try.func5, Try.ntmps5
    go_wp2_with (go_at_call 9; refine (known_any _).mono ?_; rintro e w1 ⟨rfl, hb⟩)
    go_ret
    exact ⟨rfl, hb⟩
  · have hd : decide (100 < (s.size : Int)) = false := by simp; omega
    have h2 : 100 < m.size := by omega
    have hd2 : decide (100 < (m.size : Int)) = true := by simp; omega
    clear h
    go_enter Try.func5, Try.ntmps5
    go_wp2_with (go_at_call 9; refine (known_any _).mono ?_; rintro e w1 ⟨rfl, hb⟩)
    go_ret
    exact ⟨rfl, hb⟩

/-- The text with j bytes typed at k. -/
def typ (tx ty : List UInt8) (k j : Nat) : List UInt8 := tx.take k ++ ty.take j ++ tx.drop k
theorem typ_len (tx ty : List UInt8) (k j : Nat) (hk : k ≤ tx.length) (hj : j ≤ ty.length) : (typ tx ty k j).length = tx.length + j := by
  simp [typ]; omega
theorem typ_take (tx ty : List UInt8) (k j n : Nat) (hk : k ≤ tx.length) (hn : n ≤ j) (hj : j ≤ ty.length) : (typ tx ty k j).take (k + n) = tx.take k ++ ty.take n := by
  rw [typ, List.take_append_of_le_length (by simp; omega), List.take_append, List.take_of_length_le (by simp; omega)]
  congr 1
  rw [List.take_take]; congr 1; simp; omega
theorem typ_drop (tx ty : List UInt8) (k j : Nat) (hk : k ≤ tx.length) (hj : j ≤ ty.length) : (typ tx ty k j).drop (k + j) = tx.drop k := by
  rw [typ, List.drop_left']
  simp; omega
theorem typ_ins (tx ty : List UInt8) (k j : Nat) (hk : k ≤ tx.length) (hj : j < ty.length) : (typ tx ty k j).take (k + j) ++ (ty.take (j + 1)).drop j ++ (typ tx ty k j).drop (k + j) = typ tx ty k (j + 1) := by
  rw [typ_take _ _ _ _ _ hk (Nat.le_refl _) (by omega), typ_drop _ _ _ _ hk (by omega), List.append_assoc (tx.take k)]
  have : ty.take j ++ (ty.take (j + 1)).drop j = ty.take (j + 1) := by
    have := List.take_append_drop j (ty.take (j + 1))
    rwa [List.take_take, show min j (j + 1) = j by omega] at this
  rw [this]; rfl
theorem typ_del (tx ty : List UInt8) (k j : Nat) (hk : k ≤ tx.length) (hj : j < ty.length) : (typ tx ty k (j + 1)).take (k + j) ++ (typ tx ty k (j + 1)).drop (k + j + 1) = typ tx ty k j := by
  rw [typ_take _ _ _ _ _ hk (by omega) (by omega), Nat.add_assoc, typ_drop _ _ _ _ hk (by omega)]; rfl
theorem typ_zero (tx ty : List UInt8) (k : Nat) : typ tx ty k 0 = tx := by simp [typ]

/-- What stands in each round. -/
def Rel (w : World) (t : Nat) (T : List UInt8) (e u : Nat) (V : World) : Prop :=
  Below w.heap.size w V ∧ ∃ F np, Tab V w.heap.size t F T 1000 e np u

theorem Rel.change {w V V' : World} {t e u e' u' : Nat} {T T' : List UInt8} {F : Nat → Prop} {np : Nat} (hb : Below w.heap.size w V) (ht : Tab V w.heap.size t F T 1000 e np u) (hc : Changed V w.heap.size t F T' 1000 e' u' V') : Rel w t T' e' u' V' := by
  have hb' := hb.trans (hc.below ht hb.size)
  obtain ⟨F', np', ht', -, -⟩ := hc
  exact ⟨hb', F', np', ht'⟩

set_option maxHeartbeats 2000000 in
set_option maxRecDepth 100000 in
theorem short (s m : ByteArray) (at_ : Int) (w : World) (h1 : s.size ≤ 100) (h2 : m.size ≤ 100) (ha : 0 ≤ at_ ∧ at_ ≤ 255) :
    Calls Try.prog 5 #[.string s, .string m, .int .u8 at_] w fun e w' => e = .returned (.bool true) ∧ Below w.heap.size w w' := by
  have hd : decide (100 < (s.size : Int)) = false := by simp; omega
  have hd2 : decide (100 < (m.size : Int)) = false := by simp; omega
  have hw_2 : IntKind.i64.wrap at_ = at_ := by rw [IntKind.wrap_i64]; omega
  have hw_3 : IntKind.i64.wrap ((s.size : Int) + 1) = (s.size : Int) + 1 := by rw [IntKind.wrap_i64]; omega
  go_enter Try.func5, Try.ntmps5
  go_wp2_with (go_at_call 9; refine (known_any _).mono ?_; rintro e w1 ⟨rfl, hb1⟩)
  refine (new_ok s 1000 w1 (by omega) (by omega) (by omega)).mono ?_
  rintro e w2 ⟨t, F, np, rfl, ht, hb2⟩
  have hR0 : Rel w t (typ s.data.toList m.data.toList 0 0) 0 (100 + 2 * 0) w2 := ⟨hb1.trans (hb2.mono hb1.size), F, np, by rw [typ_zero]; exact (ht.base_mono hb1.size).more (by omega)⟩
  obtain ⟨k, hk⟩ : ∃ k : Nat, (k : Int) = at_ % ((s.size : Int) + 1) := ⟨(at_ % ((s.size : Int) + 1)).toNat, Int.toNat_of_nonneg (Int.emod_nonneg _ (by omega))⟩
  have hks : k ≤ s.size := by have := Int.emod_lt_of_pos at_ (b := (s.size : Int) + 1) (by omega); omega
  have hmd : at_ % ((s.size : Int) + 1) = (k : Int) := hk.symm
  have hnz : ((s.size : Int) + 1 == 0) = false := by simp; omega
  have hsl := size_str s
  have hml := size_str m
  have hR0' : Rel w t (typ s.data.toList m.data.toList k 0) 0 (100 + 2 * 0) w2 := by rw [typ_zero] at hR0 ⊢; exact hR0
  have HR0 := Lib.hid hR0'
  clear hk ht hb1 hb2 hR0 hR0'
  go_wp2_with fail
  rw [hmd]
  clear hmd hnz hw_2 hw_3
  go_loopw [10] (fun i wr => ∃ j : Nat, j ≤ m.size ∧ i = .int .i64 j ∧ Hid (Rel w t (typ s.data.toList m.data.toList k j) j (100 + 2 * j) wr)) (fun i _ => m.size - (RowKit.intOf i).toNat)
  case atStart => exact ⟨0, Nat.zero_le _, rfl, HR0⟩
  case round =>
    obtain ⟨j, hj, rfl, hR⟩ := hrel
    by_cases hjn : j < m.size
    · obtain ⟨hb, F', np', ht⟩ := hR.out
      have hTl := typ_len s.data.toList m.data.toList k j (by omega) (by omega)
      have hss := ext_list m j (j + 1)
      have hs1 : (m.extract j (j + 1)).size = 1 := by rw [← size_str, hss]; simp; omega
      have hins := insert_ok ht (k + j) (m.extract j (j + 1)) (by omega) (by omega) (by omega) (by omega)
      rw [hss, typ_ins _ _ _ _ (by omega) (by omega), hs1, Int.natCast_add] at hins
      have hd3 : decide ((j : Int) < m.size) = true := by simp; omega
      have hw_4 : IntKind.i64.wrap ((k : Int) + j) = (k : Int) + j := by rw [IntKind.wrap_i64]; omega
      have hw_5 : IntKind.i64.wrap ((j : Int) + 1) = (j : Int) + 1 := by rw [IntKind.wrap_i64]; omega
      have htn : ((j : Int) + 1).toNat = j + 1 := by omega
      have hl0 : (0 : Int) ≤ (j : Int) + 1 := by omega
      have hl1 : (j : Int) + 1 ≤ m.size := by omega
      have HT := Lib.hid (And.intro hb ht)
      clear hb ht hss hTl
      go_wp2_with fail
      refine hins.mono ?_
      rintro e w3 ⟨rfl, hc3⟩
      have hR3 := Rel.change HT.out.1 HT.out.2 hc3
      have HR3 := Lib.hid hR3
      clear hc3 hR3 hins
      go_wp2
      go_roundw
      case rel => exact ⟨j + 1, by omega, by go_num, HR3⟩
      case measure => simp [RowKit.intOf]; omega
    · obtain rfl : j = m.size := by omega
      obtain ⟨hb, F', np', ht⟩ := hR.out
      have hd3 : decide ((m.size : Int) < m.size) = false := by simp
      have hks' : (k : Int) ≤ s.size := by omega
      have hk0 : (0 : Int) ≤ k := by omega
      have hu := put_list s m k
      have hus := put_size s m k hks
      have hty : typ s.data.toList m.data.toList k m.size = s.data.toList.take k ++ m.data.toList ++ s.data.toList.drop k := by rw [typ, ← hml, List.take_length]
      rw [hty] at ht
      have hwh := whole_any (ht.fr (Fr.drew (Fr.refl (fun _ => False) wr)) (by simp)) (s.extract 0 k ++ m ++ s.extract k s.size) hu (by simp; omega) (by omega)
      have HT := Lib.hid (And.intro hb ht)
      have hsb := hb.size
      have hcap1 : ¬ (9223372036854775807 < k + m.size) := by omega
      have hcap2 : ¬ (9223372036854775807 < k + m.size + (s.size - k)) := by omega
      clear hb ht hu
      go_wp2_with fail
      refine wp_still_tail 12 (by kernel_rfl) (by kernel_rfl) ?_
      simp only [List.take_succ_cons, List.take_zero, List.drop_succ_cons, List.drop_zero]
      repeat still_step
      refine wpStill_nil ?_
      go_wp2_with fail
      refine hwh.mono ?_
      rintro e w4 ⟨rfl, hb4⟩
      have hb4' : Below wr.heap.size wr w4 := ⟨hb4.os, hb4.tape, hb4.output, hb4.size, hb4.block⟩
      have hR4 : Rel w t (typ s.data.toList m.data.toList k m.size) (m.size + (m.size - m.size)) (300 + 2 * (m.size - m.size)) w4 := ⟨HT.out.1.trans (hb4'.mono hsb), _, _, by rw [hty, Nat.sub_self]; exact (HT.out.2.below hb4').more (by omega)⟩
      have HR4 := Lib.hid hR4
      clear hR4 hb4 hb4' hwh hty
      go_wp2_with fail
      go_loopw [11] (fun i wr => ∃ j : Nat, j ≤ m.size ∧ i = .int .i64 j ∧ Hid (Rel w t (typ s.data.toList m.data.toList k j) (m.size + (m.size - j)) (300 + 2 * (m.size - j)) wr)) (fun i _ => (RowKit.intOf i).toNat)
      case atStart => exact ⟨m.size, Nat.le_refl _, rfl, HR4⟩
      case round =>
        obtain ⟨j, hj, rfl, hR⟩ := hrel
        by_cases hj0 : 0 < j
        · obtain ⟨i, hi⟩ : ∃ i, j = i + 1 := ⟨j - 1, by omega⟩
          obtain ⟨hb, F', np', ht⟩ := hR.out
          have hTl := typ_len s.data.toList m.data.toList k j (by omega) (by omega)
          have hdel := delete_ok ht (k + i) 1 (by omega) (by omega) (by omega)
          rw [show ((k + i : Nat) : Int) = (k : Int) + j - 1 by omega, hi, typ_del _ _ _ _ (by omega) (by omega), ← hi] at hdel
          have hd3 : decide (0 < (j : Int)) = true := by simp; omega
          have hw_4 : IntKind.i64.wrap ((k : Int) + j) = (k : Int) + j := by rw [IntKind.wrap_i64]; omega
          have hw_5 : IntKind.i64.wrap ((k : Int) + j - 1) = (k : Int) + j - 1 := by rw [IntKind.wrap_i64]; omega
          have hw_6 : IntKind.i64.wrap ((j : Int) - 1) = (j : Int) - 1 := by rw [IntKind.wrap_i64]; omega
          have hnn : nz 1 = 1 := rfl
          rw [hnn] at hdel
          have HI := Lib.hid hi
          have HT := Lib.hid (And.intro hb ht)
          clear hb ht hTl hi hnn
          go_wp2_with fail
          refine hdel.mono ?_
          rintro e w3 ⟨rfl, hc3⟩
          have hR3 := Rel.change HT.out.1 HT.out.2 hc3
          have hii := HI.out
          rw [show m.size + (m.size - j) + 1 = m.size + (m.size - i) by omega] at hR3
          have hR5 : Rel w t (typ s.data.toList m.data.toList k i) (m.size + (m.size - i)) (300 + 2 * (m.size - i)) w3 := by
            obtain ⟨x, F5, np5, y⟩ := hR3
            exact ⟨x, F5, np5, y.more (by omega)⟩
          have HR3 := Lib.hid hR5
          clear hc3 hR3 hR5 hdel hii
          go_wp2
          go_roundw
          case rel => exact ⟨i, by have := HI.out; omega, by have := HI.out; simp; omega, HR3⟩
          case measure => have := HI.out; simp [RowKit.intOf]; omega
        · obtain rfl : j = 0 := by omega
          obtain ⟨hb, F', np', ht⟩ := hR.out
          rw [typ_zero] at ht
          have hwh := whole_any ht s rfl (by omega) (by omega)
          have hsb := hb.size
          have HB := Lib.hid hb
          have hc2 : ((m.size + (m.size - 0) : Nat) : Int) = 2 * (m.size : Int) := by omega
          rw [hc2] at hwh
          have hw_4 : IntKind.i64.wrap (2 * (m.size : Int)) = 2 * (m.size : Int) := by rw [IntKind.wrap_i64]; omega
          have hd3 : decide (0 < ((0 : Nat) : Int)) = false := by simp
          clear hb ht hc2
          go_wp2_with fail
          refine hwh.mono ?_
          rintro e w5 ⟨rfl, hb5⟩
          have hb6 := HB.out.trans (hb5.mono hsb)
          go_wp2
          go_ret
          exact ⟨rfl, hb6⟩

theorem walk (s m : ByteArray) (at_ : Int) (w : World) (hs : s.size ≤ 140737488355328) (hm : m.size ≤ 140737488355328) (ha : (Lit.int .u8 at_).wf = true) :
    Calls Try.prog 5 #[.string s, .string m, .int .u8 at_] w fun e w' => e = .returned (.bool true) ∧ Below w.heap.size w w' := by
  by_cases h : 100 < s.size ∨ 100 < m.size
  · exact long s m at_ w hs hm h
  · exact short s m at_ w (by omega) (by omega) (by simpa [Lit.wf, IntKind.min, IntKind.max, IntKind.signed, IntKind.bits] using ha)
end Go.Proofs.Ytiknnepmbkohiaa.PTy
