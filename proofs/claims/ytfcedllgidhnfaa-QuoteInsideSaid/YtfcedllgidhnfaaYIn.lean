/-
  The law QuoteInside, walked.
-/
import Derived.Test.YtfcedllgidhnfaaYKn
set_option linter.unusedVariables false
set_option linter.unusedSimpArgs false
set_option maxRecDepth 100000
namespace Go.Proofs.Ytfcedllgidhnfaa.YIn
open Go Go.RowKit Go.Proofs.Ytfcedllgidhnfaa.Vk Go.Proofs.Ytfcedllgidhnfaa.Str Go.Proofs.Ytfcedllgidhnfaa.Ln Go.Proofs.Ytfcedllgidhnfaa.Cl Go.Proofs.Ytfcedllgidhnfaa.Mv Go.Proofs.Ytfcedllgidhnfaa.Wo
attribute [local go_sem] Oper.semAt_some
set_option maxHeartbeats 8000000

/-- How many of A, B are ahead of j. -/
def cnt (A B j : Nat) : Nat := (if A < j then 1 else 0) + (if B < j then 1 else 0)
theorem cnt_zero {A B j : Nat} (h1 : j ≤ A) (h2 : j ≤ B) : cnt A B j = 0 := by unfold cnt; rw [if_neg (by omega), if_neg (by omega)]
theorem cnt_two {A B j : Nat} (h1 : A < j) (h2 : B < j) : cnt A B j = 2 := by unfold cnt; rw [if_pos h1, if_pos h2]
theorem cnt_le (A B j : Nat) : cnt A B j ≤ 2 := by unfold cnt; split <;> split <;> omega
theorem cnt_yes {A B j : Nat} (h : A < B) (hj : j = A ∨ j = B) : cnt A B j + 1 = cnt A B (j + 1) := by
  unfold cnt
  repeat' split
  all_goals omega
theorem cnt_no {A B j : Nat} (hj : ¬ (j = A ∨ j = B)) : cnt A B j = cnt A B (j + 1) := by
  unfold cnt
  repeat' split
  all_goals omega
theorem byte_eq {s : ByteArray} {j : Nat} {q : Int} (hj : j < s.size) (h : bt s j = q) : (((s[j]'hj).toNat : Int) == q) = true := by rw [← h, bt_at s j hj]; simp
theorem byte_nq {s : ByteArray} {j : Nat} {q d : Int} (hj : j < s.size) (h : bt s j = q) (hd : q ≠ d) : (((s[j]'hj).toNat : Int) == d) = false := by rw [bt_at s j hj, h, beq_eq_false_iff_ne]; exact hd
theorem byte_nq2 {s : ByteArray} {j : Nat} {q : Int} (hj : j < s.size) (h : bt s j ≠ q) : (((s[j]'hj).toNat : Int) == q) = false := by rw [bt_at s j hj, beq_eq_false_iff_ne]; exact h
theorem walk (a : Option Addr) (n c' : Nat) (ls : List ByteArray) (x y q : Int) (w : World) (h : Ss w a n c' ls) (hs : ∀ s ∈ ls, s.size ≤ 140737488355328) (hx : (Lit.int .u16 x).wf = true) (hy : (Lit.int .u16 y).wf = true) (hq0 : (Lit.int .u8 q).wf = true) :
    Calls Try.prog 5 #[.slice a n c', .int .u16 x, .int .u16 y, .int .u8 q] w fun e w' => e = .returned (.bool true) ∧ Below w.heap.size w w' := by
  have hk := known_any w
  have x2 : 0 ≤ x ∧ x ≤ 65535 := by simpa [Lit.wf, IntKind.min, IntKind.max, IntKind.signed, IntKind.bits] using hx
  have y2 : 0 ≤ y ∧ y ≤ 65535 := by simpa [Lit.wf, IntKind.min, IntKind.max, IntKind.signed, IntKind.bits] using hy
  have q2 : 0 ≤ q ∧ q ≤ 255 := by simpa [Lit.wf, IntKind.min, IntKind.max, IntKind.signed, IntKind.bits] using hq0
  obtain ⟨G, hG, hG3⟩ : ∃ G : Nat, q % 3 = (G : Int) ∧ G < 3 := ⟨(q % 3).toNat, by omega, by omega⟩
  have hGt : q.tmod 3 = (G : Int) := by rw [Int.tmod_eq_emod_of_nonneg q2.1]; exact hG
  have hwG : IntKind.u8.wrap (G : Int) = (G : Int) := by obtain rfl | rfl | rfl : G = 0 ∨ G = 1 ∨ G = 2 := by omega
                                                         all_goals rfl
  have hG3i : (G : Int) < 3 := by omega
  go_enter Try.func5, Try.ntmps5
  go_wp2_with fail
  refine hk.mono ?_
  rintro e w1 ⟨rfl, hb1⟩
  have HB1 := Lib.hid hb1
  have hs1 := SrcV.below h hb1
  have htx := text_any a n c' ls w1 hs1 hs
  clear hk hb1 h
  go_wp2_with fail
  refine htx.mono ?_
  rintro e w' ⟨qq, rfl, rfl, hq⟩
  clear htx
  cases qq
  · clear hq
    go_wp2
    go_ret
    exact ⟨rfl, HB1.out⟩
  obtain ⟨hn0, hn40, hz, _⟩ := hq rfl
  clear hq
  have hse := seat_eq a n c' ls x y w1 hs1 hn0 hs x2 y2
  obtain ⟨i, hi⟩ : ∃ i, i = seatL n x := ⟨_, rfl⟩
  obtain ⟨m, hm⟩ : ∃ m, m = seatC ls n x y := ⟨_, rfl⟩
  rw [← hi, ← hm] at hse
  have HS := Lib.hid hs1
  have D := Lib.hid (Below.refl w1.heap.size w1)
  clear hi hm hz hs1
  go_wp2_with fail
  refine (hse).mono ?_
  rintro e w2 ⟨rfl, hb⟩
  have D := Lib.hid (below_on D.out hb)
  clear hb hse
  go_upto_region 6 with fail
  obtain ⟨x2, hx2⟩ : ∃ x2, x2 = w2.alloc (.cells #[.int .i64 i, .int .i64 m] 34) := ⟨_, rfl⟩
  have hA : Below w2.heap.size w2 x2 := by rw [hx2]; exact (Below.refl _ w2).alloc (Nat.le_refl _) _
  have hV := PosAt.new w2 i m
  rw [← hx2] at hV ⊢
  have gg_D := D.out.size
  have D := Lib.hid (below_on D.out hA)
  obtain ⟨b_P, hbf⟩ : ∃ b, b = w2.heap.size := ⟨_, rfl⟩
  rw [← hbf] at hV ⊢
  have g_P_D := Lib.hid (show w1.heap.size ≤ b_P by rw [hbf]; exact gg_D)
  clear gg_D
  have P := Lib.hid hV
  clear hV hA hx2 hbf
  have c_P := P.out
  have P0 := c_P.c0
  have P1 := c_P.c1
  clear c_P
  clear P0 P1
  go_upto_region 7 with fail
  generalize hcc : (((({ data := #[34, 39, 97] } : ByteArray)[G]'hG3).toNat : Nat) : Int) = cc
  have hc3 : cc = 34 ∨ cc = 39 ∨ cc = 97 := by
    obtain rfl | rfl | rfl : G = 0 ∨ G = 1 ∨ G = 2 := by omega
    · exact .inl (hcc.symm.trans rfl)
    · exact .inr (.inl (hcc.symm.trans rfl))
    · exact .inr (.inr (hcc.symm.trans rfl))
  have HC3 := Lib.hid hc3
  clear hcc hc3 hG hGt hwG hG3i
  have c1 := fun W (hW : Below w1.heap.size w1 W) => inner_any a n c' ls i m cc W (SrcV.below HS.out hW) hs
  have c2 := fun W (hW : Below w1.heap.size w1 W) => around_any a n c' ls i m cc W (SrcV.below HS.out hW) hs
  cases hp : pof ls cc i m with
  | none =>
    rw [inQ_none hp] at c1
    rw [arQ_none hp] at c2
    simp only [anV] at c1 c2
    clear hp
    have c_P := P.out
    have P0 := c_P.c0
    have P1 := c_P.c1
    clear c_P
    go_wp2_with fail
    refine (c1 _ D.out).mono ?_
    rintro e w3 ⟨rfl, hb⟩
    clear P0 P1
    have D := Lib.hid (below_on D.out hb)
    have P := Lib.hid (P.out.below hb P.out.lt)
    clear hb c1
    go_upto_region 8 with fail
    obtain ⟨x3, hx3⟩ : ∃ x3, x3 = w3.alloc (.cells #[.int .i64 0, .int .i64 0, .int .i64 0, .int .i64 0, .int .i64 0] 41) := ⟨_, rfl⟩
    have hA : Below w3.heap.size w3 x3 := by rw [hx3]; exact (Below.refl _ w3).alloc (Nat.le_refl _) _
    have hV := RgAt.new w3 0 0 0 0 0
    rw [← hx3] at hV ⊢
    have lt_P := P.out.lt
    have gg_D := D.out.size
    have D := Lib.hid (below_on D.out hA)
    have P := Lib.hid (P.out.below hA P.out.lt)
    obtain ⟨b_V, hbf⟩ : ∃ b, b = w3.heap.size := ⟨_, rfl⟩
    rw [← hbf] at hV ⊢
    have n_P_V := Lib.hid (show b_P ≠ b_V by omega)
    clear lt_P
    have g_V_D := Lib.hid (show w1.heap.size ≤ b_V by rw [hbf]; exact gg_D)
    clear gg_D
    have V := Lib.hid hV
    clear hV hA hx3 hbf
    have c_P := P.out
    have P0 := c_P.c0
    have P1 := c_P.c1
    clear c_P
    have c_V := V.out
    have V0 := c_V.c0
    have V1 := c_V.c1
    have V2 := c_V.c2
    have V3 := c_V.c3
    have V4 := c_V.c4
    clear c_V
    go_wp2_with fail
    refine (c2 _ D.out).mono ?_
    rintro e w4 ⟨rfl, hb⟩
    clear P0 P1 V0 V1 V2 V3 V4
    have D := Lib.hid (below_on D.out hb)
    have P := Lib.hid (P.out.below hb P.out.lt)
    have V := Lib.hid (V.out.below hb V.out.lt)
    clear hb c2
    go_upto_region 9 with fail
    obtain ⟨x4, hx4⟩ : ∃ x4, x4 = w4.alloc (.cells #[.int .i64 0, .int .i64 0, .int .i64 0, .int .i64 0, .int .i64 0] 41) := ⟨_, rfl⟩
    have hA : Below w4.heap.size w4 x4 := by rw [hx4]; exact (Below.refl _ w4).alloc (Nat.le_refl _) _
    have hV := RgAt.new w4 0 0 0 0 0
    rw [← hx4] at hV ⊢
    have lt_P := P.out.lt
    have lt_V := V.out.lt
    have gg_D := D.out.size
    have D := Lib.hid (below_on D.out hA)
    have P := Lib.hid (P.out.below hA P.out.lt)
    have V := Lib.hid (V.out.below hA V.out.lt)
    obtain ⟨b_U, hbf⟩ : ∃ b, b = w4.heap.size := ⟨_, rfl⟩
    rw [← hbf] at hV ⊢
    have n_P_U := Lib.hid (show b_P ≠ b_U by omega)
    clear lt_P
    have n_V_U := Lib.hid (show b_V ≠ b_U by omega)
    clear lt_V
    have g_U_D := Lib.hid (show w1.heap.size ≤ b_U by rw [hbf]; exact gg_D)
    clear gg_D
    have U := Lib.hid hV
    clear hV hA hx4 hbf
    have c_P := P.out
    have P0 := c_P.c0
    have P1 := c_P.c1
    clear c_P
    have c_V := V.out
    have V0 := c_V.c0
    have V1 := c_V.c1
    have V2 := c_V.c2
    have V3 := c_V.c3
    have V4 := c_V.c4
    clear c_V
    have c_U := U.out
    have U0 := c_U.c0
    have U1 := c_U.c1
    have U2 := c_U.c2
    have U3 := c_U.c3
    have U4 := c_U.c4
    clear c_U
    go_wp2
    go_ret
    exact ⟨rfl, below_on HB1.out D.out⟩
  | some x =>
    obtain ⟨ho, hx, hcx⟩ := pof_some hp
    rw [inQ_some hp] at c1
    rw [arQ_some hp] at c2
    have hi : i < ls.length := by have := ho.2.1; omega
    simp only [Int.toNat_natCast] at c1 c2 hx hcx
    have hlen := Ss.length HS.out
    obtain ⟨ba, o, rfl, hcl, hnc, _⟩ := Ss.read HS.out i (by omega)
    have hlt' := lineAt_get hi
    have hstz := hs (ls[i]'hi) (List.getElem_mem hi)
    rw [← hlt'] at hcl hstz
    obtain ⟨st, hst⟩ : ∃ st, st = lineAt ls i := ⟨_, rfl⟩
    rw [← hst] at hcl hstz hx c2
    have hin2 : i < n := by omega
    have hbr := brd_le (n := 0) hx
    obtain ⟨F, hF⟩ : ∃ F, F = (brd st x).1 := ⟨_, rfl⟩
    obtain ⟨T, hT⟩ : ∃ T, T = (brd st x).2 := ⟨_, rfl⟩
    have hbx : brd st x = (F, T) := by rw [hF, hT]
    rw [hbx] at c2 hbr
    clear hF hT hbx
    obtain ⟨A, B⟩ := x
    obtain ⟨A1, hA1⟩ : ∃ A1, A1 = A + 1 := ⟨_, rfl⟩
    simp only [anV, ← hA1] at c1 c2
    simp only at hbr hcx
    have hAB := hx.lt
    have hBs := hx.le
    simp only at hAB hBs
    have HX := Lib.hid hx
    have HBR := Lib.hid hbr
    obtain ⟨hFA, hBT, hTs, _, _⟩ := hbr
    have HA1 := Lib.hid hA1
    clear hp hx hi hlen hlt' hst hA1 ho
    have c_P := P.out
    have P0 := c_P.c0
    have P1 := c_P.c1
    clear c_P
    go_wp2_with fail
    refine (c1 _ D.out).mono ?_
    rintro e w3 ⟨rfl, hb⟩
    clear P0 P1
    have D := Lib.hid (below_on D.out hb)
    have P := Lib.hid (P.out.below hb P.out.lt)
    clear hb c1
    go_upto_region 8 with fail
    obtain ⟨x3, hx3⟩ : ∃ x3, x3 = w3.alloc (.cells #[.int .i64 0, .int .i64 i, .int .i64 A1, .int .i64 i, .int .i64 B] 41) := ⟨_, rfl⟩
    have hA : Below w3.heap.size w3 x3 := by rw [hx3]; exact (Below.refl _ w3).alloc (Nat.le_refl _) _
    have hV := RgAt.new w3 0 i A1 i B
    rw [← hx3] at hV ⊢
    have lt_P := P.out.lt
    have gg_D := D.out.size
    have D := Lib.hid (below_on D.out hA)
    have P := Lib.hid (P.out.below hA P.out.lt)
    obtain ⟨b_V, hbf⟩ : ∃ b, b = w3.heap.size := ⟨_, rfl⟩
    rw [← hbf] at hV ⊢
    have n_P_V := Lib.hid (show b_P ≠ b_V by omega)
    clear lt_P
    have g_V_D := Lib.hid (show w1.heap.size ≤ b_V by rw [hbf]; exact gg_D)
    clear gg_D
    have V := Lib.hid hV
    clear hV hA hx3 hbf
    have c_P := P.out
    have P0 := c_P.c0
    have P1 := c_P.c1
    clear c_P
    have c_V := V.out
    have V0 := c_V.c0
    have V1 := c_V.c1
    have V2 := c_V.c2
    have V3 := c_V.c3
    have V4 := c_V.c4
    clear c_V
    go_wp2_with fail
    refine (c2 _ D.out).mono ?_
    rintro e w4 ⟨rfl, hb⟩
    clear P0 P1 V0 V1 V2 V3 V4
    have D := Lib.hid (below_on D.out hb)
    have P := Lib.hid (P.out.below hb P.out.lt)
    have V := Lib.hid (V.out.below hb V.out.lt)
    clear hb c2
    go_upto_region 9 with fail
    obtain ⟨x4, hx4⟩ : ∃ x4, x4 = w4.alloc (.cells #[.int .i64 0, .int .i64 i, .int .i64 F, .int .i64 i, .int .i64 T] 41) := ⟨_, rfl⟩
    have hA : Below w4.heap.size w4 x4 := by rw [hx4]; exact (Below.refl _ w4).alloc (Nat.le_refl _) _
    have hV := RgAt.new w4 0 i F i T
    rw [← hx4] at hV ⊢
    have lt_P := P.out.lt
    have lt_V := V.out.lt
    have gg_D := D.out.size
    have D := Lib.hid (below_on D.out hA)
    have P := Lib.hid (P.out.below hA P.out.lt)
    have V := Lib.hid (V.out.below hA V.out.lt)
    obtain ⟨b_U, hbf⟩ : ∃ b, b = w4.heap.size := ⟨_, rfl⟩
    rw [← hbf] at hV ⊢
    have n_P_U := Lib.hid (show b_P ≠ b_U by omega)
    clear lt_P
    have n_V_U := Lib.hid (show b_V ≠ b_U by omega)
    clear lt_V
    have g_U_D := Lib.hid (show w1.heap.size ≤ b_U by rw [hbf]; exact gg_D)
    clear gg_D
    have U := Lib.hid hV
    clear hV hA hx4 hbf
    have c_P := P.out
    have P0 := c_P.c0
    have P1 := c_P.c1
    clear c_P
    have c_V := V.out
    have V0 := c_V.c0
    have V1 := c_V.c1
    have V2 := c_V.c2
    have V3 := c_V.c3
    have V4 := c_V.c4
    clear c_V
    have c_U := U.out
    have U0 := c_U.c0
    have U1 := c_U.c1
    have U2 := c_U.c2
    have U3 := c_U.c3
    have U4 := c_U.c4
    clear c_U
    have hcl4 := cell_later D.out (cell_later (Below.refl _ _) hcl)
    go_wp2
    clear hcl4 hcl
    go_loop [16, 17] (fun u v => ∃ j N : Nat, v = .int .i64 j ∧ u = .int .i64 N ∧ F ≤ j ∧ j ≤ T ∧ Hid (N = cnt A B j)) (fun u v => T - (RowKit.intOf v).toNat)
    case atStart => exact ⟨F, 0, rfl, rfl, Nat.le_refl _, by omega, (cnt_zero (by omega) (by omega)).symm⟩
    case round =>
      obtain ⟨j, N, rfl, rfl, hFj, hjT, hN⟩ := hrel
      by_cases hj : j < T
      · have hjs : j < st.size := by omega
        have hji : (j : Int) < (st.size : Int) := by omega
        have e0 : decide (j < T) = true := decide_eq_true hj
        have e00 : decide ((j : Int) < (T : Int)) = true := decide_eq_true (by omega)
        obtain ⟨M, hM⟩ : ∃ M, M = j + 1 := ⟨_, rfl⟩
        have hwM : IntKind.i64.wrap ((j : Int) + 1) = (M : Int) := by rw [IntKind.wrap_i64]; omega
        have HM := Lib.hid hM
        have HJ := Lib.hid hj
        clear hM
        by_cases hq : j = A ∨ j = B
        · have hbq : bt st j = cc := by
            rcases hq with rfl | rfl
            · exact HX.out.fst
            · exact HX.out.snd
          have b1 := byte_eq hjs hbq
          have HCN := Lib.hid (cnt_yes hAB hq)
          obtain ⟨N1, hN1⟩ : ∃ N1, N1 = N + 1 := ⟨_, rfl⟩
          have hwN : IntKind.i64.wrap ((N : Int) + 1) = (N1 : Int) := by
            have := cnt_le A B j
            have := hN.out
            rw [IntKind.wrap_i64]; omega
          have HN1 := Lib.hid hN1
          clear hbq hN1 hq
          go_wp2
          go_round
          case rel => exact ⟨M, N1, rfl, rfl, by have := HM.out; omega, by have := HM.out; have := HJ.out; omega, by rw [HM.out, HN1.out, hN.out]; exact HCN.out⟩
          case measure => have := HM.out; have := HJ.out; simp [RowKit.intOf]; omega
        · have HCN := Lib.hid (cnt_no hq)
          have hjA : j ≠ A := fun e => hq (.inl e)
          have hjB : j ≠ B := fun e => hq (.inr e)
          clear hq
          rcases Nat.lt_or_ge j A with h1 | h1
          · have d1 : decide ((A1 : Int) ≤ (j : Int)) = false := decide_eq_false (by have := HA1.out; omega)
            have d2 : decide (A1 ≤ j) = false := decide_eq_false (by have := HA1.out; omega)
            have hbk : bt st j = 32 ∨ bt st j = 9 := (kl_blank st j).1 (HBR.out.2.2.2.1 j hFj h1)
            rcases hbk with hb | hb
            · have b1 := byte_nq hjs hb (d := cc) (by have := HC3.out; omega)
              have b2 := byte_is hjs hb
              clear hb
              go_wp2
              go_round
              case rel => exact ⟨M, N, rfl, rfl, by have := HM.out; omega, by have := HM.out; have := HJ.out; omega, by rw [HM.out, hN.out]; exact HCN.out⟩
              case measure => have := HM.out; have := HJ.out; simp [RowKit.intOf]; omega
            · have b1 := byte_nq hjs hb (d := cc) (by have := HC3.out; omega)
              have b2 := byte_isnt hjs (q := 32) (by rw [hb]; omega)
              have b3 := byte_is hjs hb
              clear hb
              go_wp2
              go_round
              case rel => exact ⟨M, N, rfl, rfl, by have := HM.out; omega, by have := HM.out; have := HJ.out; omega, by rw [HM.out, hN.out]; exact HCN.out⟩
              case measure => have := HM.out; have := HJ.out; simp [RowKit.intOf]; omega
          · have d1 : decide ((A1 : Int) ≤ (j : Int)) = true := decide_eq_true (by have := HA1.out; omega)
            have d2 : decide (A1 ≤ j) = true := decide_eq_true (by have := HA1.out; omega)
            rcases Nat.lt_or_ge j B with h2 | h2
            · have d3 : decide ((j : Int) < (B : Int)) = true := decide_eq_true (by omega)
              have d4 : decide (j < B) = true := decide_eq_true h2
              have b1 := byte_nq2 hjs (HX.out.mid j (by show A < j; omega) h2)
              go_wp2
              go_round
              case rel => exact ⟨M, N, rfl, rfl, by have := HM.out; omega, by have := HM.out; have := HJ.out; omega, by rw [HM.out, hN.out]; exact HCN.out⟩
              case measure => have := HM.out; have := HJ.out; simp [RowKit.intOf]; omega
            · have d3 : decide ((j : Int) < (B : Int)) = false := decide_eq_false (by omega)
              have d4 : decide (j < B) = false := decide_eq_false (by omega)
              have hbk : bt st j = 32 ∨ bt st j = 9 := (kl_blank st j).1 (HBR.out.2.2.2.2 j (by show B < j; omega) hj)
              rcases hbk with hb | hb
              · have b1 := byte_nq hjs hb (d := cc) (by have := HC3.out; omega)
                have b2 := byte_is hjs hb
                clear hb
                go_wp2
                go_round
                case rel => exact ⟨M, N, rfl, rfl, by have := HM.out; omega, by have := HM.out; have := HJ.out; omega, by rw [HM.out, hN.out]; exact HCN.out⟩
                case measure => have := HM.out; have := HJ.out; simp [RowKit.intOf]; omega
              · have b1 := byte_nq hjs hb (d := cc) (by have := HC3.out; omega)
                have b2 := byte_isnt hjs (q := 32) (by rw [hb]; omega)
                have b3 := byte_is hjs hb
                clear hb
                go_wp2
                go_round
                case rel => exact ⟨M, N, rfl, rfl, by have := HM.out; omega, by have := HM.out; have := HJ.out; omega, by rw [HM.out, hN.out]; exact HCN.out⟩
                case measure => have := HM.out; have := HJ.out; simp [RowKit.intOf]; omega
      · have hjt : j = T := by omega
        have hN2 : N = 2 := by rw [hN.out, hjt]; exact cnt_two (by omega) (by omega)
        subst hN2
        have e0 : decide (j < T) = false := decide_eq_false hj
        have e00 : decide ((j : Int) < (T : Int)) = false := decide_eq_false (by omega)
        have hAs : A < st.size := by omega
        have hAi : (A : Int) < (st.size : Int) := by omega
        have hBi : (B : Int) < (st.size : Int) := by omega
        have b1 := byte_eq hAs HX.out.fst
        have b2 := byte_eq hBs HX.out.snd
        have hwA : IntKind.i64.wrap ((A1 : Int) - 1) = (A : Int) := by have := HA1.out; rw [IntKind.wrap_i64]; omega
        have d1 : decide ((0 : Int) < (A1 : Int)) = true := decide_eq_true (by have := HA1.out; omega)
        have d2 : decide (0 < A1) = true := decide_eq_true (by have := HA1.out; omega)
        have d3 : decide ((m : Int) ≤ (B : Int)) = true := decide_eq_true (by omega)
        have d4 : decide (m ≤ B) = true := decide_eq_true hcx
        clear hjt hj hN
        go_wp2
        go_ret
        exact ⟨rfl, below_on HB1.out D.out⟩
end Go.Proofs.Ytfcedllgidhnfaa.YIn
