/-
  whole: an index of just this text: it holds of each index of a text.
-/
import Derived.Test.YtndfbjpgbpcimaaLk
set_option linter.unusedVariables false
namespace Go.Proofs.Ytndfbjpgbpcimaa.Lx
open Go Go.RowKit Go.Proofs.Ytndfbjpgbpcimaa.Vk Go.Proofs.Ytndfbjpgbpcimaa.Lm Go.Shelf
open VecI (E)

/-- What stands ahead of a round of whole's loop. -/
def At3 (t : List UInt8) (i k a : Nat) : Prop := (i ≤ t.length ∧ k = ln t i ∧ a = at0 t (ln t i)) ∨ (i = t.length + 1 ∧ k = (st t).length ∧ a = t.length + 1)

theorem At3.next {t : List UInt8} {i k a : Nat} (h : At3 t i k a) (hi : i < t.length) (hc : ¬ t[i] = 10) : At3 t (i + 1) k a := by
  rcases h with ⟨h1, h2, h3⟩ | ⟨h1, h2, h3⟩
  · have := ln_succ t i hi
    rw [if_neg hc] at this
    simp only [Nat.add_zero] at this
    exact .inl ⟨hi, by rw [h2, this], by rw [h3, this]⟩
  · omega
theorem At3.feed {t : List UInt8} {i k a : Nat} (h : At3 t i k a) (hi : i < t.length) (hc : t[i] = 10) : At3 t (i + 1) (k + 1) (i + 1) ∧ sz t k = i - a := by
  rcases h with ⟨h1, h2, h3⟩ | ⟨h1, h2, h3⟩
  · have := ln_succ t i hi
    rw [if_pos hc] at this
    obtain ⟨h4, h5⟩ := at0_succ t i hi hc
    exact ⟨.inl ⟨hi, by rw [h2, this], by rw [this, h5]⟩, by rw [h2, h3]; exact sz_feed t i hi hc⟩
  · omega
theorem At3.last {t : List UInt8} {k a : Nat} (h : At3 t t.length k a) : At3 t (t.length + 1) (k + 1) (t.length + 1) ∧ sz t k = t.length - a := by
  rcases h with ⟨h1, h2, h3⟩ | ⟨h1, h2, h3⟩
  · exact ⟨.inr ⟨rfl, by rw [h2, ln_all], rfl⟩, by rw [h2, h3]; exact sz_end t⟩
  · omega
theorem At3.here {t : List UInt8} {i k a : Nat} (h : At3 t i k a) (hi : i ≤ t.length) : k < (st t).length ∧ a = at0 t k ∧ k = ln t i ∧ a ≤ i ∧ i - a ≤ sz t k := by
  rcases h with ⟨h1, rfl, rfl⟩ | ⟨h1, h2, h3⟩
  · exact ⟨ln_lt t i, rfl, rfl, at0_le t i h1, col_le t i h1⟩
  · omega

variable {w w' : World} {base p : Nat} {F : Nat → Prop}

/-- What At and Off say of a place that is there, in the law's own words. -/
theorem Idx.at3 {t : List UInt8} (h : Idx w base p F t) {i k a : Nat} (h3 : At3 t i k a) (hi : i ≤ t.length) (hT : t.length ≤ 400000) :
    Calls Try.prog 16 #[.pointer (some ⟨p, 0, none⟩), .int .i64 i] w fun e w' => e = .returned (.tuple #[.agg #[.int .i64 k, .int .i64 ((i : Int) - a)], .bool true]) ∧ Below w.heap.size w w' := by
  obtain ⟨h4, h5, h6, h7, h8⟩ := h3.here hi
  have := h.at i hi hT
  rw [← h6, ← h5, show ((i - a : Nat) : Int) = (i : Int) - a by omega] at this
  exact this
theorem Idx.off3 {t : List UInt8} (h : Idx w base p F t) {i k a : Nat} (h3 : At3 t i k a) (hi : i ≤ t.length) (hT : t.length ≤ 400000) :
    Calls Try.prog 15 #[.pointer (some ⟨p, 0, none⟩), .agg #[.int .i64 k, .int .i64 ((i : Int) - a)]] w fun e w' => e = .returned (.tuple #[.int .i64 i, .bool true]) ∧ Below w.heap.size w w' := by
  obtain ⟨h4, h5, h6, h7, h8⟩ := h3.here hi
  have := h.off k (i - a) h4 h8 hT
  rw [← h5, show a + (i - a) = i by omega, show ((i - a : Nat) : Int) = (i : Int) - a by omega] at this
  exact this

set_option maxHeartbeats 2000000 in
set_option maxRecDepth 100000 in
theorem whole_any (s : ByteArray) (h : Idx w base p F s.data.toList) (hT : s.size ≤ 400000) :
    Calls Try.prog 10 #[.pointer (some ⟨p, 0, none⟩), .string s] w fun e w' => e = .returned (.bool true) ∧ Below w.heap.size w w' := by
  have hsl : s.data.toList.length = s.size := by rw [Array.length_toList]; rfl
  have HT : s.data.toList.length ≤ 400000 := by omega
  have HI := Lib.hid h
  have HS := Lib.hid hsl
  clear h
  go_enter Try.func10, Try.ntmps10
  go_wp2
  go_loopw [5, 6, 7] (fun u5 u6 u7 wr => ∃ i k a : Nat, u5 = .int .i64 k ∧ u6 = .int .i64 a ∧ u7 = .int .i64 i ∧ Hid (At3 s.data.toList i k a) ∧ i ≤ s.size + 1 ∧ k ≤ 400002 ∧ a ≤ 400002 ∧ Hid (Idx wr base p F s.data.toList) ∧ Hid (Below w.heap.size w wr)) (fun u5 u6 u7 _ => s.size + 1 - (RowKit.intOf u7).toNat)
  case atStart => exact ⟨0, 0, 0, rfl, rfl, rfl, .inl ⟨Nat.zero_le _, (ln_zero _).symm, by rw [ln_zero, at0_zero]⟩, Nat.zero_le _, Nat.zero_le _, Nat.zero_le _, HI.out, Below.refl _ _⟩
  case round =>
    obtain ⟨i, k, a, rfl, rfl, rfl, h3, hin, hk4, ha4, hi, hb⟩ := hrel
    by_cases hle : i ≤ s.size
    · obtain ⟨h4, h5, h6, h7, h8⟩ := h3.out.here (by omega)
      have hat := hi.out.at3 h3.out (by omega) HT
      have hsi := hb.out.size
      have hkb : k ≤ 400000 := by have := st_length_le s.data.toList; omega
      have H5 := Lib.hid h5
      have H6 := Lib.hid h6
      have H8 := Lib.hid h8
      clear h5 h6 h8
      go_wp2_with fail
      refine hat.mono ?_
      rintro e w1 ⟨rfl, hb1⟩
      obtain ⟨W, hW⟩ : ∃ W, W = w1.alloc (.cells #[.int .i64 k, .int .i64 ((i : Int) - a)] 33) := ⟨_, rfl⟩
      have hbW : Below wr.heap.size wr W := by rw [hW]; exact hb1.alloc hb1.size _
      have hiW := hi.out.below hbW
      have hpW : W.heap[w1.heap.size]? = some (.cells #[.int .i64 k, .int .i64 ((i : Int) - a)] 33 (0, 0)) := by rw [hW]; exact heap_alloc_new w1 _
      have hof := hiW.off3 h3.out (by omega) HT
      have hs1 := hb1.size
      have hsW : W.heap.size = w1.heap.size + 1 := by rw [hW]; simp
      have HW := Lib.hid (And.intro hbW hpW)
      rw [hW] at hof
      clear hb1 hbW hiW hpW hat
      go_wp2_with fail
      refine hof.mono ?_
      rintro e w2 ⟨rfl, hb2⟩
      rw [← hW] at hb2
      have hp2 := (hb2.block _ (by omega)).trans HW.out.2
      have c0 : w2.cell? ⟨w1.heap.size, 0, none⟩ = some (.int .i64 k) := (cell_of_row _ _ 0 _ _ _ hp2).trans (by simp)
      have c1 : w2.cell? ⟨w1.heap.size, 1, none⟩ = some (.int .i64 ((i : Int) - a)) := (cell_of_row _ _ 1 _ _ _ hp2).trans (by simp)
      have hb2w : Below wr.heap.size wr w2 := HW.out.1.trans (hb2.mono (by omega))
      have hww : IntKind.i64.wrap ((i : Int) - a) = (i : Int) - a := by rw [IntKind.wrap_i64]; omega
      have hi2 := hi.out.below hb2w
      have HI2 := Lib.hid (And.intro hi2 (hb.out.trans (hb2w.mono hsi)))
      clear hof hb2 hp2 hb2w hi2
      by_cases hlt : i < s.size
      · by_cases h10 : s[i] = 10
        · have hcc : (((s[i]'hlt).toNat : Int) == 10) = true := by rw [h10]; rfl
          obtain ⟨hnx, hsz0⟩ := h3.out.feed (by omega) h10
          have hst := HI2.out.1.start k h4 HT
          have hsz := HI2.out.1.size k h4 HT
          rw [← H5.out] at hst
          rw [hsz0, show ((i - a : Nat) : Int) = (i : Int) - a by omega] at hsz
          have HNX := Lib.hid hnx
          clear hnx hsz0 h10
          go_wp2_with fail
          refine hst.mono ?_
          rintro e w' ⟨rfl, rfl⟩
          go_wp2_with fail
          refine hsz.mono ?_
          rintro e w' ⟨rfl, rfl⟩
          have hw5 : IntKind.i64.wrap ((k : Int) + 1) = (k : Int) + 1 := by rw [IntKind.wrap_i64]; omega
          have hw6 : IntKind.i64.wrap ((i : Int) + 1) = (i : Int) + 1 := by rw [IntKind.wrap_i64]; omega
          go_wp2
          exact ⟨⟨i + 1, k + 1, i + 1, by go_num, by go_num, by go_num, HNX.out, by omega, by omega, by omega, HI2.out.1, HI2.out.2⟩, by simp [RowKit.intOf] <;> omega⟩
        · have hcc : (((s[i]'hlt).toNat : Int) == 10) = false := by
            rw [beq_eq_false_iff_ne]; intro h; apply h10; apply UInt8.toNat_inj.1; have : (10 : UInt8).toNat = 10 := rfl; omega
          have hnx := h3.out.next (by omega) h10
          have HNX := Lib.hid hnx
          have hw6 : IntKind.i64.wrap ((i : Int) + 1) = (i : Int) + 1 := by rw [IntKind.wrap_i64]; omega
          clear h10 hnx
          go_wp2
          exact ⟨⟨i + 1, k, a, rfl, rfl, by go_num, HNX.out, by omega, hk4, ha4, HI2.out.1, HI2.out.2⟩, by simp [RowKit.intOf] <;> omega⟩
      · obtain rfl : i = s.data.toList.length := by omega
        obtain ⟨hnx, hsz0⟩ := h3.out.last
        have hst := HI2.out.1.start k h4 HT
        have hsz := HI2.out.1.size k h4 HT
        rw [← H5.out] at hst
        rw [hsz0, show ((s.data.toList.length - a : Nat) : Int) = (s.data.toList.length : Int) - a by omega] at hsz
        have HNX := Lib.hid hnx
        clear hnx hsz0
        generalize hil : s.data.toList.length = i at *
        go_wp2_with fail
        refine hst.mono ?_
        rintro e w' ⟨rfl, rfl⟩
        go_wp2_with fail
        refine hsz.mono ?_
        rintro e w' ⟨rfl, rfl⟩
        have hw5 : IntKind.i64.wrap ((k : Int) + 1) = (k : Int) + 1 := by rw [IntKind.wrap_i64]; omega
        have hw6 : IntKind.i64.wrap ((i : Int) + 1) = (i : Int) + 1 := by rw [IntKind.wrap_i64]; omega
        go_wp2
        exact ⟨⟨i + 1, k + 1, i + 1, by go_num, by go_num, by go_num, HNX.out, by omega, by omega, by omega, HI2.out.1, HI2.out.2⟩, by simp [RowKit.intOf] <;> omega⟩
    · have hk : k = (st s.data.toList).length ∧ i = s.size + 1 := by
        rcases h3.out with ⟨h1, h2, h3⟩ | ⟨h1, h2, h3⟩
        · omega
        · exact ⟨h2, by omega⟩
      have hso := hi.out.startOut k (by omega)
      have hzo := hi.out.sizeOut (-1) (by omega)
      have hao := hi.out.atOut ((s.size : Int) + 1) (by omega) HT
      have hln := hi.out.lines
      rw [← hk.1] at hln
      have hsi := hb.out.size
      have hw5 : IntKind.i64.wrap ((s.size : Int) + 1) = (s.size : Int) + 1 := by rw [IntKind.wrap_i64]; omega
      obtain ⟨-, rfl⟩ := hk
      have hcc : ¬ (((s.size + 1 : Nat) : Int) ≤ (s.size : Int)) := by omega
      go_wp2_with fail
      refine hso.mono ?_
      rintro e w' ⟨rfl, rfl⟩
      go_wp2_with fail
      refine hzo.mono ?_
      rintro e w' ⟨rfl, rfl⟩
      go_wp2_with fail
      refine hao.mono ?_
      rintro e w1 ⟨rfl, hb1⟩
      obtain ⟨W, hW⟩ : ∃ W, W = w1.alloc (.cells #[.int .i64 0, .int .i64 0] 33) := ⟨_, rfl⟩
      have hbW : Below wr.heap.size wr W := by rw [hW]; exact hb1.alloc hb1.size _
      have hiW := hi.out.below hbW
      have ha2 := hiW.atOut (-1) (by omega) HT
      rw [hW] at ha2
      have HW := Lib.hid (And.intro hbW hiW)
      clear hao hso hzo hln hb1 hbW hiW
      go_wp2_with fail
      refine ha2.mono ?_
      rintro e w2 ⟨rfl, hb2⟩
      rw [← hW] at hb2
      obtain ⟨W2, hW2⟩ : ∃ W2, W2 = w2.alloc (.cells #[.int .i64 0, .int .i64 0] 33) := ⟨_, rfl⟩
      have hbW2 : Below W.heap.size W W2 := by rw [hW2]; exact hb2.alloc hb2.size _
      have hiW2 := HW.out.2.below hbW2
      have hln := hiW2.lines
      have hle := hiW2.len
      rw [hW2] at hln hle
      have hkk : k = (st s.data.toList).length := by
        rcases h3.out with ⟨h1, h2, h3⟩ | ⟨h1, h2, h3⟩
        · omega
        · exact h2
      rw [← hkk] at hln
      rw [hsl] at hle
      have HW2 := Lib.hid hbW2
      clear ha2 hb2 hbW2 hiW2
      have hkk2 : ((k : Int) == (k : Int)) = true := beq_self_eq_true _
      go_wp2_with fail
      refine hln.mono ?_
      rintro e w' ⟨rfl, rfl⟩
      go_wp2_with fail
      refine hle.mono ?_
      rintro e w' ⟨rfl, rfl⟩
      go_wp2
      go_ret
      refine ⟨rfl, ?_⟩
      rw [← hW2]
      exact hb.out.trans ((HW.out.1.mono hsi).trans (HW2.out.mono (Nat.le_trans hsi HW.out.1.size)))

end Go.Proofs.Ytndfbjpgbpcimaa.Lx
