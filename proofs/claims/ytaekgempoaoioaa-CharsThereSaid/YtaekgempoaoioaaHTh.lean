/-
  The law CharsThere, walked.
-/
import Derived.Test.YtaekgempoaoioaaHw
import Derived.Test.YtaekgempoaoioaaMo
set_option linter.unusedVariables false
set_option linter.unusedSimpArgs false
set_option maxRecDepth 100000
namespace Go.Proofs.Ytaekgempoaoioaa.HTh
open Go Go.RowKit Go.Proofs.Ytaekgempoaoioaa.Vk Go.Proofs.Ytaekgempoaoioaa.Str Go.Proofs.Ytaekgempoaoioaa.Ln Go.Proofs.Ytaekgempoaoioaa.Cl Go.Proofs.Ytaekgempoaoioaa.Mv Go.Proofs.Ytaekgempoaoioaa.Ch
attribute [local go_sem] Oper.semAt_some
set_option maxHeartbeats 4000000

theorem walk (st : ByteArray) (y b q : Int) (w : World) (h0 : st.size ≤ 140737488355328) (hy : (Lit.int .u16 y).wf = true) (hb0 : (Lit.int .u8 b).wf = true) (hq0 : (Lit.int .u8 q).wf = true) :
    Calls Try.prog 5 #[.string st, .int .u16 y, .int .u8 b, .int .u8 q] w fun e w' => e = .returned (.bool true) ∧ Below w.heap.size w w' := by
  have hk := known_any w
  have y2 : 0 ≤ y ∧ y ≤ 65535 := by simpa [Lit.wf, IntKind.min, IntKind.max, IntKind.signed, IntKind.bits] using hy
  have q2 : 0 ≤ q ∧ q ≤ 255 := by simpa [Lit.wf, IntKind.min, IntKind.max, IntKind.signed, IntKind.bits] using hq0
  go_enter Try.func5, Try.ntmps5
  go_wp2_with fail
  refine hk.mono ?_
  rintro e w1 ⟨rfl, hb1⟩
  have HB0 := Lib.hid hb1
  clear hk hb1
  by_cases h200 : 200 < st.size
  · go_wp2
    go_ret
    exact ⟨rfl, HB0.out⟩
  obtain ⟨x1, hx1⟩ : ∃ x1, x1 = w1.alloc (.cells #[.string st] 9) := ⟨_, rfl⟩
  have hs1 : Ss x1 (some ⟨w1.heap.size, 0, none⟩) 1 1 [st] := by
    rw [hx1]
    exact SrcV.lit w1 #[.string st] 9 1 rfl (by simp [Value.oneCell']) (by simp [maxLen])
  have hss : ∀ z, st.size ≤ z → ∀ s ∈ [st], s.size ≤ z := fun z hz s hs => by rw [List.mem_singleton.1 hs]; exact hz
  have hli := light_any _ 1 1 [st] x1 hs1 (hss _ (by omega))
  have HB1 := Lib.hid (show Below w.heap.size w x1 by rw [hx1]; exact HB0.out.alloc HB0.out.size _)
  go_wp2_with fail
  rw [← hx1]
  clear hs1 hx1 HB0
  refine hli.mono ?_
  rintro e w' ⟨qq, rfl, rfl, hq⟩
  clear hli
  cases qq
  · clear hq
    go_wp2
    go_ret
    exact ⟨rfl, HB1.out⟩
  clear hq
  go_upto_region 6 with fail
  obtain ⟨x2, hx2⟩ : ∃ x2, x2 = x1.alloc (.cells #[.string st] 9) := ⟨_, rfl⟩
  have hs2 : Ss x2 (some ⟨x1.heap.size, 0, none⟩) 1 1 [st] := by
    rw [hx2]
    exact SrcV.lit x1 #[.string st] 9 1 rfl (by simp [Value.oneCell']) (by simp [maxLen])
  have HS1 := Lib.hid hs2
  have HB1 := Lib.hid (show Below w.heap.size w x2 by rw [hx2]; exact HB1.out.alloc HB1.out.size _)
  rw [← hx2]
  clear hx2 hs2
  have hse := seat_any _ 1 1 [st] 0 y x2 HS1.out (by omega) (hss _ (by omega)) ⟨by omega, by omega⟩ y2
  go_wp2_with fail
  refine hse.mono ?_
  rintro e w2 ⟨⟨i, m, rfl, hi, hm⟩, hb2⟩
  obtain rfl : i = 0 := by omega
  have D := Lib.hid hb2
  clear hse hb2 hi
  go_upto_region 7 with fail
  obtain ⟨x3, hx3⟩ : ∃ x3, x3 = w2.alloc (.cells #[.int .i64 0, .int .i64 (m : Int)] 24) := ⟨_, rfl⟩
  have hA : Below w2.heap.size w2 x3 := by rw [hx3]; exact (Below.refl _ w2).alloc (Nat.le_refl _) _
  have hV := PosAt.new w2 0 (m : Int)
  rw [← hx3] at hV ⊢
  have gg_D := D.out.size
  have D := Lib.hid (below_on D.out hA)
  obtain ⟨b_P, hbf⟩ : ∃ b, b = w2.heap.size := ⟨_, rfl⟩
  rw [← hbf] at hV ⊢
  have g_P_D := Lib.hid (show x2.heap.size ≤ b_P by rw [hbf]; exact gg_D)
  clear gg_D
  have P := Lib.hid hV
  clear hV hA hx3 hbf
  have c_P := P.out
  have P0 := c_P.c0
  have P1 := c_P.c1
  clear c_P
  have hm : m ≤ st.size := hm
  obtain ⟨K, hK, hK3⟩ : ∃ K : Nat, q % 4 + 1 = (K : Int) ∧ 1 ≤ K := ⟨(q % 4 + 1).toNat, by omega, by omega⟩
  have hKs : K ≤ 1000 := by omega
  have ew0 : IntKind.u8.wrap (q.tmod 4) = q % 4 := by
    have h1 := Int.tmod_eq_emod_of_nonneg (b := 4) q2.1
    simp [IntKind.wrap, IntKind.bits, IntKind.signed]; omega
  have ew01 : IntKind.u8.wrap (q % 4) = q % 4 := by
    simp [IntKind.wrap, IntKind.bits, IntKind.signed]; omega
  have ew1 : IntKind.i64.wrap (q % 4) = q % 4 := by rw [IntKind.wrap_i64]; omega
  have ew2 : IntKind.i64.wrap (q % 4 + 1) = (K : Int) := by rw [IntKind.wrap_i64]; omega
  have hP : Plc [st] ((0 : Nat) : Int) (m : Int) := (plc_nat (by simp)).2 hm
  have k1 := fun W (hW : Below x2.heap.size x2 W) => seek_any _ 1 1 [st] 0 m 102 b K W (SrcV.below HS1.out hW) (hss _ (by omega)) (hss _ (by omega))
  have k2 := fun W (hW : Below x2.heap.size x2 W) => seek_any _ 1 1 [st] 0 m 116 b K W (SrcV.below HS1.out hW) (hss _ (by omega)) (hss _ (by omega))
  have q1 : seekR [st] 0 m 102 b K = seekRes 0 102 (seekF st m b K) := by
    have h9 := seekR_in (ls := [st]) (i := 0) (m := m) (key := 102) (b := b) (k := (K : Int)) hP (by omega)
    rw [Int.toNat_natCast] at h9
    exact h9
  have q3 : seekR [st] 0 m 116 b K = seekRes 0 116 (seekF st m b K) := by
    have h9 := seekR_in (ls := [st]) (i := 0) (m := m) (key := 116) (b := b) (k := (K : Int)) hP (by omega)
    rw [Int.toNat_natCast] at h9
    exact h9
  rw [q1] at k1
  rw [q3] at k2
  clear q1 q3 hP hss hK
  go_upto_region 8 with fail
  have hKN := Lib.hid (show 1 ≤ K by omega)
  clear hK3
  cases hr : seekF st m b K with
  | none =>
    rw [hr] at k1 k2
    unfold seekRes R.no at k1 k2
    have HR := Lib.hid hr
    clear hr
    go_wp2_with fail
    refine (k1 _ D.out).mono ?_
    rintro e w3 ⟨rfl, hb⟩
    clear P0 P1
    have D := Lib.hid (below_on D.out hb)
    have P := Lib.hid (P.out.below hb P.out.lt)
    clear hb k1
    go_upto_region 9 with fail
    obtain ⟨x4, hx4⟩ : ∃ x4, x4 = w3.alloc (.cells #[.int .i64 0, .int .i64 0, .int .i64 0, .bool false, .int .i64 0] 32) := ⟨_, rfl⟩
    have hA : Below w3.heap.size w3 x4 := by rw [hx4]; exact (Below.refl _ w3).alloc (Nat.le_refl _) _
    have hV := MvAt.new w3 0 0 0 0 false
    rw [← hx4] at hV ⊢
    have lt_P := P.out.lt
    have gg_D := D.out.size
    have D := Lib.hid (below_on D.out hA)
    have P := Lib.hid (P.out.below hA P.out.lt)
    obtain ⟨b_V, hbf⟩ : ∃ b, b = w3.heap.size := ⟨_, rfl⟩
    rw [← hbf] at hV ⊢
    have n_P_V := Lib.hid (show b_P ≠ b_V by omega)
    clear lt_P
    have g_V_D := Lib.hid (show x2.heap.size ≤ b_V by rw [hbf]; exact gg_D)
    clear gg_D
    have V := Lib.hid hV
    clear hV hA hx4 hbf
    have c_P := P.out
    have P0 := c_P.c0
    have P1 := c_P.c1
    clear c_P
    have c_V := V.out
    have V0 := c_V.c0
    have V1 := c_V.c1
    have V2 := c_V.c2
    have V3 := c_V.c3
    have V4 := c_V.c4
    clear c_V
    go_wp2_with fail
    refine (k2 _ D.out).mono ?_
    rintro e w4 ⟨rfl, hb⟩
    clear P0 P1 V0 V1 V2 V3 V4
    have D := Lib.hid (below_on D.out hb)
    have P := Lib.hid (P.out.below hb P.out.lt)
    have V := Lib.hid (V.out.below hb V.out.lt)
    clear hb k2
    go_upto_region 10 with fail
    obtain ⟨x5, hx5⟩ : ∃ x5, x5 = w4.alloc (.cells #[.int .i64 0, .int .i64 0, .int .i64 0, .bool false, .int .i64 0] 32) := ⟨_, rfl⟩
    have hA : Below w4.heap.size w4 x5 := by rw [hx5]; exact (Below.refl _ w4).alloc (Nat.le_refl _) _
    have hV := MvAt.new w4 0 0 0 0 false
    rw [← hx5] at hV ⊢
    have lt_P := P.out.lt
    have lt_V := V.out.lt
    have gg_D := D.out.size
    have D := Lib.hid (below_on D.out hA)
    have P := Lib.hid (P.out.below hA P.out.lt)
    have V := Lib.hid (V.out.below hA V.out.lt)
    obtain ⟨b_U, hbf⟩ : ∃ b, b = w4.heap.size := ⟨_, rfl⟩
    rw [← hbf] at hV ⊢
    have n_P_U := Lib.hid (show b_P ≠ b_U by omega)
    clear lt_P
    have n_V_U := Lib.hid (show b_V ≠ b_U by omega)
    clear lt_V
    have g_U_D := Lib.hid (show x2.heap.size ≤ b_U by rw [hbf]; exact gg_D)
    clear gg_D
    have U := Lib.hid hV
    clear hV hA hx5 hbf
    have c_P := P.out
    have P0 := c_P.c0
    have P1 := c_P.c1
    clear c_P
    have c_V := V.out
    have V0 := c_V.c0
    have V1 := c_V.c1
    have V2 := c_V.c2
    have V3 := c_V.c3
    have V4 := c_V.c4
    clear c_V
    have c_U := U.out
    have U0 := c_U.c0
    have U1 := c_U.c1
    have U2 := c_U.c2
    have U3 := c_U.c3
    have U4 := c_U.c4
    clear c_U
    have ew := wrap_inc m (by omega)
    clear ew0 ew01 ew1 ew2
    go_wp2
    go_loop [16, 17] (fun u i => ∃ J t : Nat, m + 1 ≤ J ∧ (J ≤ st.size ∨ J = m + 1) ∧ i = .int .i64 J ∧ u = .int .i64 t ∧ t < K ∧ Hid (t = cntc st b (m + 1) (J - (m + 1)))) (fun _ i => st.size + 1 - (RowKit.intOf i).toNat)
    case atStart => exact ⟨m + 1, 0, by omega, .inr rfl, by go_num, rfl, by have := hKN.out; omega, by rw [Nat.sub_self]; rfl⟩
    case round =>
      obtain ⟨J, t, hJ1, hJ2, rfl, rfl, htK, hcn⟩ := hrel
      clear ew
      have ei := wrap_inc t (by omega)
      by_cases hJn : J < st.size
      · have eJ := wrap_inc J (by omega)
        by_cases hc : atc st J = b
        · have hb := byte_is hJn hc
          have HC := Lib.hid hc
          clear hc
          by_cases hl : t + 1 = K
          · have hsf : seekF st m b K = some J := seekF_eq ⟨by omega, by omega, by have := hcn.out; omega⟩ HC.out hJn
            rw [HR.out] at hsf
            cases hsf
          have hl3 : (((t : Int) + 1) == (K : Int)) = false := by rw [beq_eq_false_iff_ne]; omega
          go_wp2
          go_round
          case rel => exact ⟨J + 1, t + 1, by omega, .inl (by omega), by go_num, by go_num, by omega, by
            have h1 := hcn.out
            show _ = _
            rw [show J + 1 - (m + 1) = (J - (m + 1)) + 1 by omega, cntc_yes (by rw [show m + 1 + (J - (m + 1)) = J by omega]; exact HC.out)]; omega⟩
          case measure => simp [RowKit.intOf]; omega
        · have hb := byte_isnt hJn hc
          have HC := Lib.hid hc
          clear hc
          go_wp2
          go_round
          case rel => exact ⟨J + 1, t, by omega, .inl (by omega), by go_num, rfl, htK, by
            have h1 := hcn.out
            show _ = _
            rw [show J + 1 - (m + 1) = (J - (m + 1)) + 1 by omega, cntc_no (by rw [show m + 1 + (J - (m + 1)) = J by omega]; exact HC.out)]; exact h1⟩
          case measure => simp [RowKit.intOf]; omega
      · go_wp2
        go_ret
        exact ⟨rfl, below_on HB1.out D.out⟩
  | some j =>
    rw [hr] at k1 k2
    rw [show seekRes 0 102 (some j) = ⟨0, j, 1, false, -1, true⟩ from rfl] at k1
    rw [show seekRes 0 116 (some j) = ⟨0, (j : Int) - 1, 1, false, -1, true⟩ from rfl] at k2
    have HR := Lib.hid hr
    clear hr
    go_wp2_with fail
    refine (k1 _ D.out).mono ?_
    rintro e w3 ⟨rfl, hb⟩
    clear P0 P1
    have D := Lib.hid (below_on D.out hb)
    have P := Lib.hid (P.out.below hb P.out.lt)
    clear hb k1
    go_upto_region 9 with fail
    obtain ⟨x4, hx4⟩ : ∃ x4, x4 = w3.alloc (.cells #[.int .i64 0, .int .i64 (j : Int), .int .i64 1, .bool false, .int .i64 (-1)] 32) := ⟨_, rfl⟩
    have hA : Below w3.heap.size w3 x4 := by rw [hx4]; exact (Below.refl _ w3).alloc (Nat.le_refl _) _
    have hV := MvAt.new w3 0 (j : Int) 1 (-1) false
    rw [← hx4] at hV ⊢
    have lt_P := P.out.lt
    have gg_D := D.out.size
    have D := Lib.hid (below_on D.out hA)
    have P := Lib.hid (P.out.below hA P.out.lt)
    obtain ⟨b_V, hbf⟩ : ∃ b, b = w3.heap.size := ⟨_, rfl⟩
    rw [← hbf] at hV ⊢
    have n_P_V := Lib.hid (show b_P ≠ b_V by omega)
    clear lt_P
    have g_V_D := Lib.hid (show x2.heap.size ≤ b_V by rw [hbf]; exact gg_D)
    clear gg_D
    have V := Lib.hid hV
    clear hV hA hx4 hbf
    have c_P := P.out
    have P0 := c_P.c0
    have P1 := c_P.c1
    clear c_P
    have c_V := V.out
    have V0 := c_V.c0
    have V1 := c_V.c1
    have V2 := c_V.c2
    have V3 := c_V.c3
    have V4 := c_V.c4
    clear c_V
    go_wp2_with fail
    refine (k2 _ D.out).mono ?_
    rintro e w4 ⟨rfl, hb⟩
    clear P0 P1 V0 V1 V2 V3 V4
    have D := Lib.hid (below_on D.out hb)
    have P := Lib.hid (P.out.below hb P.out.lt)
    have V := Lib.hid (V.out.below hb V.out.lt)
    clear hb k2
    go_upto_region 10 with fail
    obtain ⟨x5, hx5⟩ : ∃ x5, x5 = w4.alloc (.cells #[.int .i64 0, .int .i64 ((j : Int) - 1), .int .i64 1, .bool false, .int .i64 (-1)] 32) := ⟨_, rfl⟩
    have hA : Below w4.heap.size w4 x5 := by rw [hx5]; exact (Below.refl _ w4).alloc (Nat.le_refl _) _
    have hV := MvAt.new w4 0 ((j : Int) - 1) 1 (-1) false
    rw [← hx5] at hV ⊢
    have lt_P := P.out.lt
    have lt_V := V.out.lt
    have gg_D := D.out.size
    have D := Lib.hid (below_on D.out hA)
    have P := Lib.hid (P.out.below hA P.out.lt)
    have V := Lib.hid (V.out.below hA V.out.lt)
    obtain ⟨b_U, hbf⟩ : ∃ b, b = w4.heap.size := ⟨_, rfl⟩
    rw [← hbf] at hV ⊢
    have n_P_U := Lib.hid (show b_P ≠ b_U by omega)
    clear lt_P
    have n_V_U := Lib.hid (show b_V ≠ b_U by omega)
    clear lt_V
    have g_U_D := Lib.hid (show x2.heap.size ≤ b_U by rw [hbf]; exact gg_D)
    clear gg_D
    have U := Lib.hid hV
    clear hV hA hx5 hbf
    have c_P := P.out
    have P0 := c_P.c0
    have P1 := c_P.c1
    clear c_P
    have c_V := V.out
    have V0 := c_V.c0
    have V1 := c_V.c1
    have V2 := c_V.c2
    have V3 := c_V.c3
    have V4 := c_V.c4
    clear c_V
    have c_U := U.out
    have U0 := c_U.c0
    have U1 := c_U.c1
    have U2 := c_U.c2
    have U3 := c_U.c3
    have U4 := c_U.c4
    clear c_U
    have ew := wrap_inc m (by omega)
    clear ew0 ew01 ew1 ew2
    go_wp2
    go_loop [16, 17] (fun u i => ∃ J t : Nat, m + 1 ≤ J ∧ (J ≤ st.size ∨ J = m + 1) ∧ i = .int .i64 J ∧ u = .int .i64 t ∧ t < K ∧ Hid (t = cntc st b (m + 1) (J - (m + 1)))) (fun _ i => st.size + 1 - (RowKit.intOf i).toNat)
    case atStart => exact ⟨m + 1, 0, by omega, .inr rfl, by go_num, rfl, by have := hKN.out; omega, by rw [Nat.sub_self]; rfl⟩
    case round =>
      obtain ⟨J, t, hJ1, hJ2, rfl, rfl, htK, hcn⟩ := hrel
      clear ew
      have ei := wrap_inc t (by omega)
      by_cases hJn : J < st.size
      · have eJ := wrap_inc J (by omega)
        by_cases hc : atc st J = b
        · have hb := byte_is hJn hc
          have HC := Lib.hid hc
          clear hc
          by_cases hl : t + 1 = K
          · have hsf : seekF st m b K = some J := seekF_eq ⟨by omega, by omega, by have := hcn.out; omega⟩ HC.out hJn
            obtain rfl : J = j := by rw [HR.out] at hsf; exact (Option.some.inj hsf).symm
            have hl2 : (t : Int) + 1 = (K : Int) := by omega
            have hl3 : (((t : Int) + 1) == (K : Int)) = true := by rw [beq_iff_eq]; exact hl2
            have ed := wrap_dec J (by omega)
            clear hsf hl hcn hl2
            go_wp2
            go_ret
            exact ⟨rfl, below_on HB1.out D.out⟩
          have hl3 : (((t : Int) + 1) == (K : Int)) = false := by rw [beq_eq_false_iff_ne]; omega
          go_wp2
          go_round
          case rel => exact ⟨J + 1, t + 1, by omega, .inl (by omega), by go_num, by go_num, by omega, by
            have h1 := hcn.out
            show _ = _
            rw [show J + 1 - (m + 1) = (J - (m + 1)) + 1 by omega, cntc_yes (by rw [show m + 1 + (J - (m + 1)) = J by omega]; exact HC.out)]; omega⟩
          case measure => simp [RowKit.intOf]; omega
        · have hb := byte_isnt hJn hc
          have HC := Lib.hid hc
          clear hc
          go_wp2
          go_round
          case rel => exact ⟨J + 1, t, by omega, .inl (by omega), by go_num, rfl, htK, by
            have h1 := hcn.out
            show _ = _
            rw [show J + 1 - (m + 1) = (J - (m + 1)) + 1 by omega, cntc_no (by rw [show m + 1 + (J - (m + 1)) = J by omega]; exact HC.out)]; exact h1⟩
          case measure => simp [RowKit.intOf]; omega
      · exfalso
        obtain ⟨⟨g1, g2, g3⟩, g4, g5⟩ := seekF_get HR.out
        have e := cntc_yes (s := st) (c := b) (a := m + 1) (d := j - (m + 1)) (by rw [show m + 1 + (j - (m + 1)) = j by omega]; exact g4)
        have h2 := cntc_mono (s := st) (c := b) (a := m + 1) (show j - (m + 1) + 1 ≤ J - (m + 1) by omega)
        have h1 := hcn.out
        omega
end Go.Proofs.Ytaekgempoaoioaa.HTh
