/-
  The law BracketDeep, walked.
-/
import Derived.Test.YtbimblfkkmpieaaNKn
set_option linter.unusedVariables false
set_option linter.unusedSimpArgs false
set_option maxRecDepth 100000
namespace Go.Proofs.Ytbimblfkkmpieaa.NDe
open Go Go.RowKit Go.Proofs.Ytbimblfkkmpieaa.Vk Go.Proofs.Ytbimblfkkmpieaa.Str Go.Proofs.Ytbimblfkkmpieaa.Ln Go.Proofs.Ytbimblfkkmpieaa.Cl Go.Proofs.Ytbimblfkkmpieaa.Mv Go.Proofs.Ytbimblfkkmpieaa.Pr Go.Proofs.Ytbimblfkkmpieaa.Wd Go.Proofs.Ytbimblfkkmpieaa.Bo
open Go.Proofs.Ytbimblfkkmpieaa.Wo (RgAt putR putR_below rgv eq_rng ne_rng)
attribute [local go_sem] Oper.semAt_some
set_option maxHeartbeats 8000000

theorem less_any (a b c d : Int) (w : World) : Calls Try.prog 13 #[.agg #[.int .i64 a, .int .i64 b], .agg #[.int .i64 c, .int .i64 d]] w fun e w' => e = .returned (.bool (So.lt a b c d)) ∧ Below w.heap.size w w' := by
  go_enter Try.func13, Try.ntmps13
  go_wp2
  all_goals go_ret
  all_goals refine ⟨ret_bool ?_, two_below _ _ _⟩
  all_goals unfold So.lt
  all_goals first | (rw [decide_eq_decide]; omega) | exact (decide_eq_true (by omega)).symm

/-- What stands between the rounds: the place, the last pair's range. -/
structure Dq (ls : List ByteArray) (i m cc : Nat) (w1 : World) (bP bL : Nat) (had : Bool) (N : Nat) (wr : World) : Prop where
  below : Below w1.heap.size w1 wr
  pos : PosAt wr bP i m
  last : ∃ z1 z2 z3 z4 : Int, RgAt wr bL 0 z1 z2 z3 z4 ∧ (had = true → ∃ (x : PP) (M : Nat), N = M + 1 ∧ brk ls i m cc (M : Int) = some x ∧ z1 = x.1.1 ∧ z2 = x.1.2 ∧ z3 = x.2.1 ∧ z4 = ((x.2.2 + 1 : Nat) : Int))
theorem shut_lt {a b c d : Nat} (h : lp (a, b) (c, d) = true) : So.lt (a : Int) ((b + 1 : Nat) : Int) (c : Int) ((d + 1 : Nat) : Int) = true := by
  unfold lp So.lt at h
  unfold So.lt
  simp only [decide_eq_true_eq] at h ⊢
  omega

theorem walk (a : Option Addr) (n c' : Nat) (ls : List ByteArray) (x y q : Int) (w : World) (h : Ss w a n c' ls) (hs : ∀ s ∈ ls, s.size ≤ 140737488355328) (hx : (Lit.int .u16 x).wf = true) (hy : (Lit.int .u16 y).wf = true) (hq0 : (Lit.int .u8 q).wf = true) :
    Calls Try.prog 5 #[.slice a n c', .int .u16 x, .int .u16 y, .int .u8 q] w fun e w' => e = .returned (.bool true) ∧ Below w.heap.size w w' := by
  have hk := known_any w
  have x2 : 0 ≤ x ∧ x ≤ 65535 := by simpa [Lit.wf, IntKind.min, IntKind.max, IntKind.signed, IntKind.bits] using hx
  have y2 : 0 ≤ y ∧ y ≤ 65535 := by simpa [Lit.wf, IntKind.min, IntKind.max, IntKind.signed, IntKind.bits] using hy
  have q2 : 0 ≤ q ∧ q ≤ 255 := by simpa [Lit.wf, IntKind.min, IntKind.max, IntKind.signed, IntKind.bits] using hq0
  obtain ⟨G, hG, hG3⟩ : ∃ G : Nat, q % 3 = (G : Int) ∧ G < 3 := ⟨(q % 3).toNat, by omega, by omega⟩
  have hGt : q.tmod 3 = (G : Int) := by rw [Int.tmod_eq_emod_of_nonneg q2.1]; exact hG
  have hwG : IntKind.u8.wrap (G : Int) = (G : Int) := by obtain rfl | rfl | rfl : G = 0 ∨ G = 1 ∨ G = 2 := by omega
                                                         all_goals rfl
  have hG3i : (G : Int) < 3 := by omega
  go_enter Try.func5, Try.ntmps5
  go_wp2_with fail
  refine hk.mono ?_
  rintro e w1 ⟨rfl, hb1⟩
  have HB1 := Lib.hid hb1
  have hs1 := SrcV.below h hb1
  have htx := text_any a n c' ls w1 hs1 hs
  clear hk hb1 h
  go_wp2_with fail
  refine htx.mono ?_
  rintro e w' ⟨qq, rfl, rfl, hq⟩
  clear htx
  cases qq
  · clear hq
    go_wp2
    go_ret
    exact ⟨rfl, HB1.out⟩
  obtain ⟨hn0, hn40, hz, _⟩ := hq rfl
  clear hq
  have hse := seat_eq a n c' ls x y w1 hs1 hn0 hs x2 y2
  obtain ⟨i, hi⟩ : ∃ i, i = seatL n x := ⟨_, rfl⟩
  obtain ⟨m, hm⟩ : ∃ m, m = seatC ls n x y := ⟨_, rfl⟩
  rw [← hi, ← hm] at hse
  have HS := Lib.hid hs1
  have D := Lib.hid (Below.refl w1.heap.size w1)
  clear hi hm hs1
  go_wp2_with fail
  refine (hse).mono ?_
  rintro e w2 ⟨rfl, hb⟩
  have D := Lib.hid (below_on D.out hb)
  clear hb hse
  go_upto_region 6 with fail
  obtain ⟨x2, hx2⟩ : ∃ x2, x2 = w2.alloc (.cells #[.int .i64 i, .int .i64 m] 24) := ⟨_, rfl⟩
  have hA : Below w2.heap.size w2 x2 := by rw [hx2]; exact (Below.refl _ w2).alloc (Nat.le_refl _) _
  have hV := PosAt.new w2 i m
  rw [← hx2] at hV ⊢
  have gg_D := D.out.size
  have D := Lib.hid (below_on D.out hA)
  obtain ⟨b_P, hbf⟩ : ∃ b, b = w2.heap.size := ⟨_, rfl⟩
  rw [← hbf] at hV ⊢
  have g_P_D := Lib.hid (show w1.heap.size ≤ b_P by rw [hbf]; exact gg_D)
  clear gg_D
  have P := Lib.hid hV
  clear hV hA hx2 hbf
  have c_P := P.out
  have P0 := c_P.c0
  have P1 := c_P.c1
  clear c_P
  clear P0 P1
  go_upto_region 7 with fail
  generalize hcc : ((({ data := #[40, 91, 123] } : ByteArray)[G]'hG3).toNat) = cc
  clear hcc hG hGt hwG hG3i
  go_upto_region 8 with fail
  obtain ⟨x3, hx3⟩ : ∃ x3, x3 = x2.alloc (.cells #[.int .i64 0, .int .i64 0, .int .i64 0, .int .i64 0, .int .i64 0] 33) := ⟨_, rfl⟩
  have hA : Below x2.heap.size x2 x3 := by rw [hx3]; exact (Below.refl _ x2).alloc (Nat.le_refl _) _
  have hV := RgAt.new x2 0 0 0 0 0
  rw [← hx3] at hV ⊢
  have lt_P := P.out.lt
  have gg_D := D.out.size
  have D := Lib.hid (below_on D.out hA)
  have P := Lib.hid (P.out.below hA P.out.lt)
  obtain ⟨b_L, hbf⟩ : ∃ b, b = x2.heap.size := ⟨_, rfl⟩
  rw [← hbf] at hV ⊢
  have n_P_L := Lib.hid (show b_P ≠ b_L by omega)
  clear lt_P
  have g_L_D := Lib.hid (show w1.heap.size ≤ b_L by rw [hbf]; exact gg_D)
  clear gg_D
  have L := Lib.hid hV
  clear hV hA hx3 hbf
  have c_P := P.out
  have P0 := c_P.c0
  have P1 := c_P.c1
  clear c_P
  have c_L := L.out
  have L0 := c_L.c0
  have L1 := c_L.c1
  have L2 := c_L.c2
  have L3 := c_L.c3
  have L4 := c_L.c4
  have Lz := c_L.z
  clear c_L
  clear P0 P1 L0 L1 L2 L3 L4 Lz
  go_wp2
  go_loopw [12, 13] (fun u v wr => ∃ (N : Nat) (had : Bool), 1 ≤ N ∧ N ≤ 12 ∧ u = .bool had ∧ v = .int .i64 N ∧ Hid (Dq ls i m cc w1 b_P b_L had N wr)) (fun _ v _ => 12 - (RowKit.intOf v).toNat)
  case atStart => exact ⟨1, false, by omega, by omega, rfl, rfl, D.out, P.out, 0, 0, 0, 0, L.out, fun h => by cases h⟩
  case round =>
    obtain ⟨N, had, hN1, hN12, rfl, rfl, hQ⟩ := hrel
    obtain ⟨hD, hP, z1, z2, z3, z4, hL, hlast⟩ := hQ.out
    have D := Lib.hid hD
    have P := Lib.hid hP
    have L := Lib.hid hL
    clear hQ hD hP hL
    by_cases hN : N < 12
    rotate_left
    · obtain rfl : N = 12 := by omega
      go_wp2
      go_ret
      exact ⟨rfl, below_on HB1.out D.out⟩
    obtain ⟨N1, hN1'⟩ : ∃ N1, N1 = N + 1 := ⟨_, rfl⟩
    have hwN : IntKind.i64.wrap ((N : Int) + 1) = (N1 : Int) := by rw [IntKind.wrap_i64]; omega
    have c1 := fun W (hW : Below w1.heap.size w1 W) => around_any a n c' ls i m cc N W (SrcV.below HS.out hW) hs (by omega) (by omega) (by omega)
    cases hb : brk ls i m cc N with
    | none =>
      have hb2 := brk_end hN1 hb
      have c2 := fun W (hW : Below w1.heap.size w1 W) => around_any a n c' ls i m cc N1 W (SrcV.below HS.out hW) hs (by omega) (by omega) (by omega)
      rw [show brk ls i m cc (N1 : Int) = none by rw [show (N1 : Int) = (N : Int) + 1 by omega]; exact hb2] at c2
      rw [hb] at c1
      simp only [Bo.brV] at c1 c2
      have HNN := Lib.hid hN1'
      clear hb hb2 hlast hN1'

      have c_P := P.out
      have P0 := c_P.c0
      have P1 := c_P.c1
      clear c_P
      have c_L := L.out
      have L0 := c_L.c0
      have L1 := c_L.c1
      have L2 := c_L.c2
      have L3 := c_L.c3
      have L4 := c_L.c4
      have Lz := c_L.z
      clear c_L
      go_wp2_with fail
      refine (c1 _ D.out).mono ?_
      rintro e w3 ⟨rfl, hb⟩
      clear P0 P1 L0 L1 L2 L3 L4 Lz
      have D := Lib.hid (below_on D.out hb)
      have P := Lib.hid (P.out.below hb P.out.lt)
      have L := Lib.hid (L.out.below hb L.out.lt)
      clear hb c1
      go_upto_region 12 with fail
      obtain ⟨y1, hy1⟩ : ∃ y1, y1 = w3.alloc (.cells #[.int .i64 0, .int .i64 0, .int .i64 0, .int .i64 0, .int .i64 0] 33) := ⟨_, rfl⟩
      have hA : Below w3.heap.size w3 y1 := by rw [hy1]; exact (Below.refl _ w3).alloc (Nat.le_refl _) _
      have hV := RgAt.new w3 0 0 0 0 0
      rw [← hy1] at hV ⊢
      have lt_P := P.out.lt
      have lt_L := L.out.lt
      have gg_D := D.out.size
      have D := Lib.hid (below_on D.out hA)
      have P := Lib.hid (P.out.below hA P.out.lt)
      have L := Lib.hid (L.out.below hA L.out.lt)
      obtain ⟨b_V, hbf⟩ : ∃ b, b = w3.heap.size := ⟨_, rfl⟩
      rw [← hbf] at hV ⊢
      have n_P_V := Lib.hid (show b_P ≠ b_V by omega)
      clear lt_P
      have n_L_V := Lib.hid (show b_L ≠ b_V by omega)
      clear lt_L
      have g_V_D := Lib.hid (show w1.heap.size ≤ b_V by rw [hbf]; exact gg_D)
      clear gg_D
      have V := Lib.hid hV
      clear hV hA hy1 hbf
      have c_P := P.out
      have P0 := c_P.c0
      have P1 := c_P.c1
      clear c_P
      have c_L := L.out
      have L0 := c_L.c0
      have L1 := c_L.c1
      have L2 := c_L.c2
      have L3 := c_L.c3
      have L4 := c_L.c4
      have Lz := c_L.z
      clear c_L
      have c_V := V.out
      have V0 := c_V.c0
      have V1 := c_V.c1
      have V2 := c_V.c2
      have V3 := c_V.c3
      have V4 := c_V.c4
      clear c_V
      go_wp2_with fail
      refine (c2 _ D.out).mono ?_
      rintro e w4 ⟨rfl, hb⟩
      clear P0 P1 L0 L1 L2 L3 L4 Lz V0 V1 V2 V3 V4
      have D := Lib.hid (below_on D.out hb)
      have P := Lib.hid (P.out.below hb P.out.lt)
      have L := Lib.hid (L.out.below hb L.out.lt)
      have V := Lib.hid (V.out.below hb V.out.lt)
      clear hb c2
      go_upto_region 14 with fail
      obtain ⟨y2, hy2⟩ : ∃ y2, y2 = w4.alloc (.cells #[.int .i64 0, .int .i64 0, .int .i64 0, .int .i64 0, .int .i64 0] 33) := ⟨_, rfl⟩
      have hA : Below w4.heap.size w4 y2 := by rw [hy2]; exact (Below.refl _ w4).alloc (Nat.le_refl _) _
      have hV := RgAt.new w4 0 0 0 0 0
      rw [← hy2] at hV ⊢
      have lt_P := P.out.lt
      have lt_L := L.out.lt
      have lt_V := V.out.lt
      have gg_D := D.out.size
      have D := Lib.hid (below_on D.out hA)
      have P := Lib.hid (P.out.below hA P.out.lt)
      have L := Lib.hid (L.out.below hA L.out.lt)
      have V := Lib.hid (V.out.below hA V.out.lt)
      obtain ⟨b_U, hbf⟩ : ∃ b, b = w4.heap.size := ⟨_, rfl⟩
      rw [← hbf] at hV ⊢
      have n_P_U := Lib.hid (show b_P ≠ b_U by omega)
      clear lt_P
      have n_L_U := Lib.hid (show b_L ≠ b_U by omega)
      clear lt_L
      have n_V_U := Lib.hid (show b_V ≠ b_U by omega)
      clear lt_V
      have g_U_D := Lib.hid (show w1.heap.size ≤ b_U by rw [hbf]; exact gg_D)
      clear gg_D
      have U := Lib.hid hV
      clear hV hA hy2 hbf
      have c_P := P.out
      have P0 := c_P.c0
      have P1 := c_P.c1
      clear c_P
      have c_L := L.out
      have L0 := c_L.c0
      have L1 := c_L.c1
      have L2 := c_L.c2
      have L3 := c_L.c3
      have L4 := c_L.c4
      have Lz := c_L.z
      clear c_L
      have c_V := V.out
      have V0 := c_V.c0
      have V1 := c_V.c1
      have V2 := c_V.c2
      have V3 := c_V.c3
      have V4 := c_V.c4
      clear c_V
      have c_U := U.out
      have U0 := c_U.c0
      have U1 := c_U.c1
      have U2 := c_U.c2
      have U3 := c_U.c3
      have U4 := c_U.c4
      clear c_U
      go_wp2
      go_ret
      exact ⟨rfl, below_on HB1.out D.out⟩
    | some y =>
      rw [hb] at c1
      obtain ⟨⟨yi, yk⟩, yj, ym⟩ := y
      obtain ⟨ym1, hym⟩ : ∃ ym1, ym1 = ym + 1 := ⟨_, rfl⟩
      have hv : brV true (some ((yi, yk), yj, ym)) = .tuple #[rgv 0 yi yk yj ym1, .bool true] := by rw [hym]; rfl
      rw [hv] at c1
      have HYM := Lib.hid hym
      have HNN := Lib.hid hN1'
      clear hv hym hN1'

      have c_P := P.out
      have P0 := c_P.c0
      have P1 := c_P.c1
      clear c_P
      have c_L := L.out
      have L0 := c_L.c0
      have L1 := c_L.c1
      have L2 := c_L.c2
      have L3 := c_L.c3
      have L4 := c_L.c4
      have Lz := c_L.z
      clear c_L
      go_wp2_with fail
      refine (c1 _ D.out).mono ?_
      rintro e w3 ⟨rfl, hb⟩
      clear P0 P1 L0 L1 L2 L3 L4 Lz
      have D := Lib.hid (below_on D.out hb)
      have P := Lib.hid (P.out.below hb P.out.lt)
      have L := Lib.hid (L.out.below hb L.out.lt)
      clear hb c1
      go_upto_region 12 with fail
      obtain ⟨y1, hy1⟩ : ∃ y1, y1 = w3.alloc (.cells #[.int .i64 0, .int .i64 yi, .int .i64 yk, .int .i64 yj, .int .i64 ym1] 33) := ⟨_, rfl⟩
      have hA : Below w3.heap.size w3 y1 := by rw [hy1]; exact (Below.refl _ w3).alloc (Nat.le_refl _) _
      have hV := RgAt.new w3 0 yi yk yj ym1
      rw [← hy1] at hV ⊢
      have lt_P := P.out.lt
      have lt_L := L.out.lt
      have gg_D := D.out.size
      have D := Lib.hid (below_on D.out hA)
      have P := Lib.hid (P.out.below hA P.out.lt)
      have L := Lib.hid (L.out.below hA L.out.lt)
      obtain ⟨b_V, hbf⟩ : ∃ b, b = w3.heap.size := ⟨_, rfl⟩
      rw [← hbf] at hV ⊢
      have n_P_V := Lib.hid (show b_P ≠ b_V by omega)
      clear lt_P
      have n_L_V := Lib.hid (show b_L ≠ b_V by omega)
      clear lt_L
      have g_V_D := Lib.hid (show w1.heap.size ≤ b_V by rw [hbf]; exact gg_D)
      clear gg_D
      have V := Lib.hid hV
      clear hV hA hy1 hbf
      have c_P := P.out
      have P0 := c_P.c0
      have P1 := c_P.c1
      clear c_P
      have c_L := L.out
      have L0 := c_L.c0
      have L1 := c_L.c1
      have L2 := c_L.c2
      have L3 := c_L.c3
      have L4 := c_L.c4
      have Lz := c_L.z
      clear c_L
      have c_V := V.out
      have V0 := c_V.c0
      have V1 := c_V.c1
      have V2 := c_V.c2
      have V3 := c_V.c3
      have V4 := c_V.c4
      clear c_V
      cases had with
      | false =>
        have HN := Lib.hid (And.intro hN1 (And.intro hN HNN.out))
        have HB := Lib.hid hb
        clear hlast hb
        go_upto_region 17 with fail
        clear P0 P1 L0 L1 L2 L3 L4 Lz V0 V1 V2 V3 V4
        have c_P := P.out
        have P0 := c_P.c0
        have P1 := c_P.c1
        clear c_P
        have c_L := L.out
        have L0 := c_L.c0
        have L1 := c_L.c1
        have L2 := c_L.c2
        have L3 := c_L.c3
        have L4 := c_L.c4
        have Lz := c_L.z
        clear c_L
        have c_V := V.out
        have V0 := c_V.c0
        have V1 := c_V.c1
        have V2 := c_V.c2
        have V3 := c_V.c3
        have V4 := c_V.c4
        clear c_V
        go_upto_region 10 with fail
        clear P0 P1 L0 L1 L2 L3 L4 Lz V0 V1 V2 V3 V4
        obtain ⟨y3, hy3⟩ : ∃ y3, y3 = putR y1 b_L 0 yi yk yj ym1 := ⟨_, rfl⟩
        have ey3 := hy3.symm
        unfold putR at ey3
        rw [ey3]
        clear ey3
        have D := Lib.hid (show Below w1.heap.size w1 y3 by rw [hy3]; exact putR_below D.out g_L_D.out _ _ _ _ _)
        have P := Lib.hid (show PosAt y3 b_P i m by rw [hy3]; exact P.out.otherR (n_P_L.out))
        have L := Lib.hid (show RgAt y3 b_L 0 yi yk yj ym1 by rw [hy3]; exact L.out.put _ _ _ _ _)
        have V := Lib.hid (show RgAt y3 b_V 0 yi yk yj ym1 by rw [hy3]; exact V.out.otherR (n_L_V.out.symm))
        clear hy3
        have c_P := P.out
        have P0 := c_P.c0
        have P1 := c_P.c1
        clear c_P
        have c_L := L.out
        have L0 := c_L.c0
        have L1 := c_L.c1
        have L2 := c_L.c2
        have L3 := c_L.c3
        have L4 := c_L.c4
        have Lz := c_L.z
        clear c_L
        have c_V := V.out
        have V0 := c_V.c0
        have V1 := c_V.c1
        have V2 := c_V.c2
        have V3 := c_V.c3
        have V4 := c_V.c4
        clear c_V
        go_wp2
        go_roundw
        case rel => exact ⟨N1, true, by have := HN.out; omega, by have := HN.out; omega, rfl, by go_num, D.out, P.out, yi, yk, yj, ym1, L.out, fun _ => ⟨((yi, yk), yj, ym), N, HN.out.2.2, HB.out, rfl, rfl, rfl, by rw [HYM.out]⟩⟩
        case measure => have := HN.out; simp [RowKit.intOf]; omega
      | true =>
        obtain ⟨x, M, hM, hbx, rfl, rfl, rfl, rfl⟩ := hlast rfl
        have hin := brk_in hbx (show brk ls i m cc ((M : Int) + 1) = some ((yi, yk), yj, ym) by rw [show (M : Int) + 1 = (N : Int) by omega]; exact hb)
        obtain ⟨⟨xi, xk⟩, xj, xm⟩ := x
        simp only at hin L
        have l1 := fun W => less_any yi yk xi xk W
        rw [show So.lt (yi : Int) (yk : Int) (xi : Int) (xk : Int) = true from hin.1] at l1
        obtain ⟨xm1, hxm⟩ : ∃ xm1, xm1 = xm + 1 := ⟨_, rfl⟩
        have l2 := fun W => less_any xj xm1 yj ym1 W
        rw [hxm, HYM.out, shut_lt hin.2, ← hxm, ← HYM.out] at l2
        rw [← hxm] at L
        have HN := Lib.hid (And.intro hN1 (And.intro hN HNN.out))
        have HB := Lib.hid hb
        clear hlast hb hin hbx hM hxm
        clear P0 P1 L0 L1 L2 L3 L4 Lz V0 V1 V2 V3 V4
        have c_P := P.out
        have P0 := c_P.c0
        have P1 := c_P.c1
        clear c_P
        have c_L := L.out
        have L0 := c_L.c0
        have L1 := c_L.c1
        have L2 := c_L.c2
        have L3 := c_L.c3
        have L4 := c_L.c4
        have Lz := c_L.z
        clear c_L
        have c_V := V.out
        have V0 := c_V.c0
        have V1 := c_V.c1
        have V2 := c_V.c2
        have V3 := c_V.c3
        have V4 := c_V.c4
        clear c_V
        go_wp2_with fail
        refine (l1 _).mono ?_
        rintro e w4 ⟨rfl, hb⟩
        clear P0 P1 L0 L1 L2 L3 L4 Lz V0 V1 V2 V3 V4
        have D := Lib.hid (below_on D.out hb)
        have P := Lib.hid (P.out.below hb P.out.lt)
        have L := Lib.hid (L.out.below hb L.out.lt)
        have V := Lib.hid (V.out.below hb V.out.lt)
        clear hb l1
        have c_P := P.out
        have P0 := c_P.c0
        have P1 := c_P.c1
        clear c_P
        have c_L := L.out
        have L0 := c_L.c0
        have L1 := c_L.c1
        have L2 := c_L.c2
        have L3 := c_L.c3
        have L4 := c_L.c4
        have Lz := c_L.z
        clear c_L
        have c_V := V.out
        have V0 := c_V.c0
        have V1 := c_V.c1
        have V2 := c_V.c2
        have V3 := c_V.c3
        have V4 := c_V.c4
        clear c_V
        go_wp2_with fail
        refine (l2 _).mono ?_
        rintro e w5 ⟨rfl, hb⟩
        clear P0 P1 L0 L1 L2 L3 L4 Lz V0 V1 V2 V3 V4
        have D := Lib.hid (below_on D.out hb)
        have P := Lib.hid (P.out.below hb P.out.lt)
        have L := Lib.hid (L.out.below hb L.out.lt)
        have V := Lib.hid (V.out.below hb V.out.lt)
        clear hb l2
        go_upto_region 17 with fail
        have c_P := P.out
        have P0 := c_P.c0
        have P1 := c_P.c1
        clear c_P
        have c_L := L.out
        have L0 := c_L.c0
        have L1 := c_L.c1
        have L2 := c_L.c2
        have L3 := c_L.c3
        have L4 := c_L.c4
        have Lz := c_L.z
        clear c_L
        have c_V := V.out
        have V0 := c_V.c0
        have V1 := c_V.c1
        have V2 := c_V.c2
        have V3 := c_V.c3
        have V4 := c_V.c4
        clear c_V
        go_upto_region 10 with fail
        clear P0 P1 L0 L1 L2 L3 L4 Lz V0 V1 V2 V3 V4
        obtain ⟨y3, hy3⟩ : ∃ y3, y3 = putR w5 b_L 0 yi yk yj ym1 := ⟨_, rfl⟩
        have ey3 := hy3.symm
        unfold putR at ey3
        rw [ey3]
        clear ey3
        have D := Lib.hid (show Below w1.heap.size w1 y3 by rw [hy3]; exact putR_below D.out g_L_D.out _ _ _ _ _)
        have P := Lib.hid (show PosAt y3 b_P i m by rw [hy3]; exact P.out.otherR (n_P_L.out))
        have L := Lib.hid (show RgAt y3 b_L 0 yi yk yj ym1 by rw [hy3]; exact L.out.put _ _ _ _ _)
        have V := Lib.hid (show RgAt y3 b_V 0 yi yk yj ym1 by rw [hy3]; exact V.out.otherR (n_L_V.out.symm))
        clear hy3
        have c_P := P.out
        have P0 := c_P.c0
        have P1 := c_P.c1
        clear c_P
        have c_L := L.out
        have L0 := c_L.c0
        have L1 := c_L.c1
        have L2 := c_L.c2
        have L3 := c_L.c3
        have L4 := c_L.c4
        have Lz := c_L.z
        clear c_L
        have c_V := V.out
        have V0 := c_V.c0
        have V1 := c_V.c1
        have V2 := c_V.c2
        have V3 := c_V.c3
        have V4 := c_V.c4
        clear c_V
        go_wp2
        go_roundw
        case rel => exact ⟨N1, true, by have := HN.out; omega, by have := HN.out; omega, rfl, by go_num, D.out, P.out, yi, yk, yj, ym1, L.out, fun _ => ⟨((yi, yk), yj, ym), N, HN.out.2.2, HB.out, rfl, rfl, rfl, by rw [HYM.out]⟩⟩
        case measure => have := HN.out; simp [RowKit.intOf]; omega
end Go.Proofs.Ytbimblfkkmpieaa.NDe
