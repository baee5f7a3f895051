/-
  The law ParaObjects, walked.
-/
import Derived.Test.YtnngcminomooeaaXKn
set_option linter.unusedVariables false
set_option linter.unusedSimpArgs false
set_option maxRecDepth 100000
namespace Go.Proofs.Ytnngcminomooeaa.XOb
open Go Go.RowKit Go.Proofs.Ytnngcminomooeaa.Vk Go.Proofs.Ytnngcminomooeaa.Str Go.Proofs.Ytnngcminomooeaa.Ln Go.Proofs.Ytnngcminomooeaa.Cl Go.Proofs.Ytnngcminomooeaa.Mv Go.Proofs.Ytnngcminomooeaa.Wd Go.Proofs.Ytnngcminomooeaa.Pa Go.Proofs.Ytnngcminomooeaa.Po
open Go.Proofs.Ytnngcminomooeaa.Wo (On rgv RgAt putR putR_below eq_rng ne_rng)
attribute [local go_sem] Oper.semAt_some
set_option maxHeartbeats 4000000

theorem walk (a : Option Addr) (n c' : Nat) (ls : List ByteArray) (l c x y q : Int) (w : World) (h : Ss w a n c' ls) (hs : ∀ s ∈ ls, s.size ≤ 140737488355328) (hl : (Lit.int .i64 l).wf = true) (hc : (Lit.int .i64 c).wf = true) (hx : (Lit.int .u16 x).wf = true) (hy : (Lit.int .u16 y).wf = true) (hq0 : (Lit.int .i64 q).wf = true) :
    Calls Try.prog 4 #[.slice a n c', .agg #[.int .i64 l, .int .i64 c], .int .u16 x, .int .u16 y, .int .i64 q] w fun e w' => e = .returned (.bool true) ∧ Below w.heap.size w w' := by
  obtain ⟨w0, hw0⟩ : ∃ w0, w0 = w.alloc (.cells #[.int .i64 l, .int .i64 c] 36) := ⟨_, rfl⟩
  have hk := known_any w0
  have x2 : 0 ≤ x ∧ x ≤ 65535 := by simpa [Lit.wf, IntKind.min, IntKind.max, IntKind.signed, IntKind.bits] using hx
  have y2 : 0 ≤ y ∧ y ≤ 65535 := by simpa [Lit.wf, IntKind.min, IntKind.max, IntKind.signed, IntKind.bits] using hy
  have q2 : -9223372036854775808 ≤ q ∧ q ≤ 9223372036854775807 := by simpa [Lit.wf, IntKind.min, IntKind.max, IntKind.signed, IntKind.bits] using hq0
  have q9 : -5 < q.tmod 5 ∧ q.tmod 5 < 5 := ⟨Int.lt_tmod_of_pos q (by omega), Int.tmod_lt_of_pos q (by omega)⟩
  have eq9 : IntKind.i64.wrap (q.tmod 5) = q.tmod 5 := by rw [IntKind.wrap_i64]; omega
  have hb0 : Below w.heap.size w w0 := by rw [hw0]; exact (Below.refl _ w).alloc (Nat.le_refl _) _
  have hr0 : PosAt w0 w.heap.size l c := by rw [hw0]; exact PosAt.new w l c
  have HW0 := Lib.hid hw0
  clear hw0
  go_enter Try.func4, Try.ntmps4
  go_wp2_with fail
  rw [← HW0.out]
  refine hk.mono ?_
  rintro e w1 ⟨rfl, hb1⟩
  have hs1 := SrcV.below h (hb0.trans (hb1.mono hb0.size))
  have htx := text_any a n c' ls w1 hs1 hs
  have HS1 := Lib.hid hs1
  have HB1 := Lib.hid (hb0.trans (hb1.mono hb0.size))
  have hr1 := hr0.below hb1 hr0.lt
  clear hk hb1 h hb0 hr0 hs1 HW0
  go_wp2_with fail
  refine htx.mono ?_
  rintro e w' ⟨qq, rfl, rfl, hq⟩
  clear htx
  cases qq
  · clear hq
    go_wp2
    go_ret
    exact ⟨rfl, HB1.out⟩
  obtain ⟨hn0, hn40, hz, _⟩ := hq rfl
  clear hq
  have hse := fun W (hW : Below w1.heap.size w1 W) => seat_eq a n c' ls x y W (SrcV.below HS1.out hW) hn0 hs x2 y2
  obtain ⟨i, hi⟩ : ∃ i, i = seatL n x := ⟨_, rfl⟩
  obtain ⟨m, hm⟩ : ∃ m, m = seatC ls n x y := ⟨_, rfl⟩
  rw [← hi, ← hm] at hse
  have r0 := hr1.c0
  have r1 := hr1.c1
  have F0 := fun (C : World → Prop) (hC : Grows w1 C) (z : In C) => hC.cell r0 z
  have F1 := fun (C : World → Prop) (hC : Grows w1 C) (z : In C) => hC.cell r1 z
  clear hi hm hr1
  go_wp2_with fail
  clear r0 r1
  refine wp_region_seg [0, 1, 2, 3, 4, 7] [(5, 1), (6, 0)] (by kernel_rfl) (by kernel_rfl) 125 rfl (by kernel_rfl) ?_
  simp only [List.map_cons, List.map_nil, opOf_succ, opOf_zero]
  apply Exists.intro
  refine ⟨fun C hC => ?_, ?_⟩
  · haveI hI := hC.one
    have f0 := F0 C hC
    have f1 := F1 C hC
    have g1 := fun z : In C => hse z.W (hC.below _ z.isIn)
    repeat (go_big_quiet_step (first | (go_at_call 13; exact Calls.in_of hC (g1 _))))
    exact wpQuiet_nil rfl
  clear F0 F1 hse
  refine wpPath_make rfl fun w2 hb_w2 => ⟨.slice (some ⟨w2.heap.size, 0, none⟩) 2 2, w2.alloc (.cells #[.int .i64 l, .int .i64 c, .int .i64 (i : Int), .int .i64 (m : Int)] 36), rfl, by simp only [opOf_succ, opOf_zero]; go_simp, (Below.refl _ w2).alloc (Nat.le_refl _) _, ?_⟩
  simp only [opOf_succ, opOf_zero, Act.put, List.setIfInBounds_toArray, List.set_cons_zero, List.set_cons_succ]
  have hQ := RowAt.new w2 #[.int .i64 l, .int .i64 c, .int .i64 (i : Int), .int .i64 (m : Int)] 36
  obtain ⟨x3, hx3⟩ : ∃ x3, x3 = w2.alloc (.cells #[.int .i64 l, .int .i64 c, .int .i64 (i : Int), .int .i64 (m : Int)] 36) := ⟨_, rfl⟩
  have hb3 : Below w1.heap.size w1 x3 := by rw [hx3]; exact below_on hb_w2 ((Below.refl _ w2).alloc (Nat.le_refl _) _)
  rw [← hx3] at hQ ⊢
  obtain ⟨b_Q, hbq⟩ : ∃ b, b = w2.heap.size := ⟨_, rfl⟩
  rw [← hbq] at hQ ⊢
  clear hx3 hbq hb_w2
  refine wpPath_on (r := []) [6] 125 rfl (by kernel_rfl) ?_
  simp only [List.map_cons, List.map_nil, opOf_succ, opOf_zero]
  apply Exists.intro
  refine ⟨fun C hC => ?_, ?_⟩
  · haveI hI := hC.one
    repeat (go_big_quiet_step (fail))
    exact wpQuiet_nil rfl
  refine wpPath_end fun x4 hb4 => ?_
  have Q := Lib.hid (hQ.below hb4 hQ.lt)
  have HS4 := Lib.hid (SrcV.below HS1.out (below_on hb3 hb4))
  have HB4 := Lib.hid (below_on HB1.out (below_on hb3 hb4))
  clear hQ hb3 hb4 HS1 HB1
  go_wp2
  go_loopw [37] (fun i wr => ∃ k : Nat, k ≤ 2 ∧ i = .int .i64 k ∧ Hid (Below x4.heap.size x4 wr)) (fun i _ => 2 - (RowKit.intOf i).toNat)
  case atStart => exact ⟨0, by omega, rfl, Below.refl _ _⟩
  case round =>
    obtain ⟨k, hk2, rfl, D⟩ := hrel
    by_cases hk : k < 2
    rotate_left
    · obtain rfl : k = 2 := by omega
      go_wp2
      go_ret
      exact ⟨rfl, below_on HB4.out D.out⟩
    obtain ⟨px, py, hx0, hy0⟩ : ∃ px py : Int, wr.cell? ⟨b_Q, k * 2, none⟩ = some (.int .i64 px) ∧ wr.cell? ⟨b_Q, k * 2 + 1, none⟩ = some (.int .i64 py) := by
      have q := Q.out.below D.out Q.out.lt
      obtain rfl | rfl : k = 0 ∨ k = 1 := by omega
      · exact ⟨l, c, q.at (k := 0) rfl, q.at (k := 1) rfl⟩
      · exact ⟨i, m, q.at (k := 2) rfl, q.at (k := 3) rfl⟩
    go_upto_region 8 with fail
    obtain ⟨x5, hx5⟩ : ∃ x5, x5 = wr.alloc (.cells #[.int .i64 px, .int .i64 py] 36) := ⟨_, rfl⟩
    have hA : Below wr.heap.size wr x5 := by rw [hx5]; exact (Below.refl _ wr).alloc (Nat.le_refl _) _
    have hV := PosAt.new wr px py
    rw [← hx5] at hV ⊢
    have gg_D := D.out.size
    have D := Lib.hid (below_on D.out hA)
    obtain ⟨b_P, hbf⟩ : ∃ b, b = wr.heap.size := ⟨_, rfl⟩
    rw [← hbf] at hV ⊢
    have g_P_D := Lib.hid (show x4.heap.size ≤ b_P by rw [hbf]; exact gg_D)
    clear gg_D
    have P := Lib.hid hV
    clear hV hA hx5 hbf
    have c_P := P.out
    have P0 := c_P.c0
    have P1 := c_P.c1
    clear c_P
    clear hx0 hy0
    have HK := Lib.hid hk
    clear hk
    rename (k : Int) < 2 => hki
    clear hki
    go_wp2
    obtain ⟨x6, hx6⟩ : ∃ x6, x6 = x5.alloc (.cells #[.int .i64 q, .int .i64 (q.tmod 5), .int .i64 1] 3) := ⟨_, rfl⟩
    have hA : Below x5.heap.size x5 x6 := by rw [hx6]; exact (Below.refl _ x5).alloc (Nat.le_refl _) _
    have hV := RowAt.new x5 #[.int .i64 q, .int .i64 (q.tmod 5), .int .i64 1] 3
    rw [← hx6] at hV ⊢
    have lt_P := P.out.lt
    have gg_D := D.out.size
    have D := Lib.hid (below_on D.out hA)
    have P := Lib.hid (P.out.below hA P.out.lt)
    obtain ⟨b_N, hbf⟩ : ∃ b, b = x5.heap.size := ⟨_, rfl⟩
    rw [← hbf] at hV ⊢
    have n_P_N := Lib.hid (show b_P ≠ b_N by omega)
    clear lt_P
    have g_N_D := Lib.hid (show x4.heap.size ≤ b_N by rw [hbf]; exact gg_D)
    clear gg_D
    have N := Lib.hid hV
    clear hV hA hx6 hbf
    clear P0 P1
    have c_P := P.out
    have P0 := c_P.c0
    have P1 := c_P.c1
    clear c_P
    clear P0 P1
    go_loopw [46] (fun i ws => ∃ t : Nat, t ≤ 3 ∧ i = .int .i64 t ∧ Hid (Below x6.heap.size x6 ws)) (fun i _ => 3 - (RowKit.intOf i).toNat)
    case atStart => exact ⟨0, by omega, rfl, Below.refl _ _⟩
    case round =>
      obtain ⟨t, ht3, rfl, E⟩ := hrel
      have hws := E.out
      by_cases ht : t < 3
      · obtain ⟨kk, hkk⟩ : ∃ kk : Int, wr.cell? ⟨b_N, t, none⟩ = some (.int .i64 kk) := by
          have q := N.out.below hws N.out.lt
          obtain rfl | rfl | rfl : t = 0 ∨ t = 1 ∨ t = 2 := by omega
          · exact ⟨_, q.at (k := 0) rfl⟩
          · exact ⟨_, q.at (k := 1) rfl⟩
          · exact ⟨_, q.at (k := 2) rfl⟩
        have D := Lib.hid (below_on D.out hws)
        have P := Lib.hid (P.out.below hws P.out.lt)
        have c1 := fun W (hW : Below x4.heap.size x4 W) => inner_any a n c' ls px py kk W (SrcV.below HS4.out hW) hs (by omega)
        have d1 := fun W (hW : Below x4.heap.size x4 W) => pinner_any a n c' ls px py kk W (SrcV.below HS4.out hW) (by omega)
        obtain ⟨k1, a1, b1, o1, er1⟩ := anP_parts (inP ls px py kk)
        simp only [er1] at c1 d1
        have ne1 := fun W => ne_rng k1 a1 0 b1 0 W
        clear er1
        have c2 := fun W (hW : Below x4.heap.size x4 W) => around_any a n c' ls px py kk W (SrcV.below HS4.out hW) hs (by omega)
        have d2 := fun W (hW : Below x4.heap.size x4 W) => paround_any a n c' ls px py kk W (SrcV.below HS4.out hW) (by omega)
        obtain ⟨k2, a2, b2, o2, er2⟩ := anP_parts (arP ls px py kk)
        simp only [er2] at c2 d2
        have ne2 := fun W => ne_rng k2 a2 0 b2 0 W
        clear er2
        have c_P := P.out
        have P0 := c_P.c0
        have P1 := c_P.c1
        clear c_P
        go_wp2_with fail
        refine (c1 _ D.out).mono ?_
        rintro e v1 ⟨rfl, hb⟩
        clear P0 P1
        have D := Lib.hid (below_on D.out hb)
        have E := Lib.hid (below_on E.out hb)
        have P := Lib.hid (P.out.below hb P.out.lt)
        clear hb c1 hkk
        have HT := Lib.hid ht
        clear hws ht
        go_upto_region 12 with fail
        obtain ⟨y1, hy1⟩ : ∃ y1, y1 = v1.alloc (.cells #[.int .i64 k1, .int .i64 a1, .int .i64 0, .int .i64 b1, .int .i64 0] 42) := ⟨_, rfl⟩
        have hA : Below v1.heap.size v1 y1 := by rw [hy1]; exact (Below.refl _ v1).alloc (Nat.le_refl _) _
        have hV := RgAt.new v1 k1 a1 0 b1 0
        rw [← hy1] at hV ⊢
        have lt_P := P.out.lt
        have gg_D := D.out.size
        have gg_E := E.out.size
        have D := Lib.hid (below_on D.out hA)
        have E := Lib.hid (below_on E.out hA)
        have P := Lib.hid (P.out.below hA P.out.lt)
        obtain ⟨b_V, hbf⟩ : ∃ b, b = v1.heap.size := ⟨_, rfl⟩
        rw [← hbf] at hV ⊢
        have n_P_V := Lib.hid (show b_P ≠ b_V by omega)
        clear lt_P
        have g_V_D := Lib.hid (show x4.heap.size ≤ b_V by rw [hbf]; exact gg_D)
        clear gg_D
        have g_V_E := Lib.hid (show x6.heap.size ≤ b_V by rw [hbf]; exact gg_E)
        clear gg_E
        have V := Lib.hid hV
        clear hV hA hy1 hbf
        have c_P := P.out
        have P0 := c_P.c0
        have P1 := c_P.c1
        clear c_P
        have c_V := V.out
        have V0 := c_V.c0
        have V1 := c_V.c1
        have V2 := c_V.c2
        have V3 := c_V.c3
        have V4 := c_V.c4
        have Vz := c_V.z
        clear c_V
        go_wp2_with fail
        refine (d1 _ D.out).mono ?_
        rintro e v2 ⟨rfl, hb⟩
        clear P0 P1 V0 V1 V2 V3 V4 Vz
        have D := Lib.hid (below_on D.out hb)
        have E := Lib.hid (below_on E.out hb)
        have P := Lib.hid (P.out.below hb P.out.lt)
        have V := Lib.hid (V.out.below hb V.out.lt)
        clear hb d1
        go_upto_region 13 with fail
        obtain ⟨y2, hy2⟩ : ∃ y2, y2 = v2.alloc (.cells #[.int .i64 k1, .int .i64 a1, .int .i64 0, .int .i64 b1, .int .i64 0] 42) := ⟨_, rfl⟩
        have hA : Below v2.heap.size v2 y2 := by rw [hy2]; exact (Below.refl _ v2).alloc (Nat.le_refl _) _
        have hV := RgAt.new v2 k1 a1 0 b1 0
        rw [← hy2] at hV ⊢
        have lt_P := P.out.lt
        have lt_V := V.out.lt
        have gg_D := D.out.size
        have gg_E := E.out.size
        have D := Lib.hid (below_on D.out hA)
        have E := Lib.hid (below_on E.out hA)
        have P := Lib.hid (P.out.below hA P.out.lt)
        have V := Lib.hid (V.out.below hA V.out.lt)
        obtain ⟨b_U, hbf⟩ : ∃ b, b = v2.heap.size := ⟨_, rfl⟩
        rw [← hbf] at hV ⊢
        have n_P_U := Lib.hid (show b_P ≠ b_U by omega)
        clear lt_P
        have n_V_U := Lib.hid (show b_V ≠ b_U by omega)
        clear lt_V
        have g_U_D := Lib.hid (show x4.heap.size ≤ b_U by rw [hbf]; exact gg_D)
        clear gg_D
        have g_U_E := Lib.hid (show x6.heap.size ≤ b_U by rw [hbf]; exact gg_E)
        clear gg_E
        have U := Lib.hid hV
        clear hV hA hy2 hbf
        have c_P := P.out
        have P0 := c_P.c0
        have P1 := c_P.c1
        clear c_P
        have c_V := V.out
        have V0 := c_V.c0
        have V1 := c_V.c1
        have V2 := c_V.c2
        have V3 := c_V.c3
        have V4 := c_V.c4
        have Vz := c_V.z
        clear c_V
        have c_U := U.out
        have U0 := c_U.c0
        have U1 := c_U.c1
        have U2 := c_U.c2
        have U3 := c_U.c3
        have U4 := c_U.c4
        have Uz := c_U.z
        clear c_U
        go_wp2_with fail
        refine (c2 _ D.out).mono ?_
        rintro e v4 ⟨rfl, hb⟩
        clear P0 P1 V0 V1 V2 V3 V4 Vz U0 U1 U2 U3 U4 Uz
        have D := Lib.hid (below_on D.out hb)
        have E := Lib.hid (below_on E.out hb)
        have P := Lib.hid (P.out.below hb P.out.lt)
        have V := Lib.hid (V.out.below hb V.out.lt)
        have U := Lib.hid (U.out.below hb U.out.lt)
        clear hb c2
        have c_P := P.out
        have P0 := c_P.c0
        have P1 := c_P.c1
        clear c_P
        have c_V := V.out
        have V0 := c_V.c0
        have V1 := c_V.c1
        have V2 := c_V.c2
        have V3 := c_V.c3
        have V4 := c_V.c4
        have Vz := c_V.z
        clear c_V
        have c_U := U.out
        have U0 := c_U.c0
        have U1 := c_U.c1
        have U2 := c_U.c2
        have U3 := c_U.c3
        have U4 := c_U.c4
        have Uz := c_U.z
        clear c_U
        go_upto_region 16 with fail
        clear P0 P1 V0 V1 V2 V3 V4 Vz U0 U1 U2 U3 U4 Uz
        obtain ⟨y3, hy3⟩ : ∃ y3, y3 = putR v4 b_V k2 a2 0 b2 0 := ⟨_, rfl⟩
        have ey3 := hy3.symm
        unfold putR at ey3
        rw [ey3]
        clear ey3
        have D := Lib.hid (show Below x4.heap.size x4 y3 by rw [hy3]; exact putR_below D.out g_V_D.out _ _ _ _ _)
        have E := Lib.hid (show Below x6.heap.size x6 y3 by rw [hy3]; exact putR_below E.out g_V_E.out _ _ _ _ _)
        have P := Lib.hid (show PosAt y3 b_P px py by rw [hy3]; exact P.out.otherR (n_P_V.out))
        have V := Lib.hid (show RgAt y3 b_V k2 a2 0 b2 0 by rw [hy3]; exact V.out.put _ _ _ _ _)
        have U := Lib.hid (show RgAt y3 b_U k1 a1 0 b1 0 by rw [hy3]; exact U.out.otherR (n_V_U.out.symm))
        clear hy3
        have c_P := P.out
        have P0 := c_P.c0
        have P1 := c_P.c1
        clear c_P
        have c_V := V.out
        have V0 := c_V.c0
        have V1 := c_V.c1
        have V2 := c_V.c2
        have V3 := c_V.c3
        have V4 := c_V.c4
        have Vz := c_V.z
        clear c_V
        have c_U := U.out
        have U0 := c_U.c0
        have U1 := c_U.c1
        have U2 := c_U.c2
        have U3 := c_U.c3
        have U4 := c_U.c4
        have Uz := c_U.z
        clear c_U
        go_wp2_with fail
        refine (d2 _ D.out).mono ?_
        rintro e v5 ⟨rfl, hb⟩
        clear P0 P1 V0 V1 V2 V3 V4 Vz U0 U1 U2 U3 U4 Uz
        have D := Lib.hid (below_on D.out hb)
        have E := Lib.hid (below_on E.out hb)
        have P := Lib.hid (P.out.below hb P.out.lt)
        have V := Lib.hid (V.out.below hb V.out.lt)
        have U := Lib.hid (U.out.below hb U.out.lt)
        clear hb d2
        have c_P := P.out
        have P0 := c_P.c0
        have P1 := c_P.c1
        clear c_P
        have c_V := V.out
        have V0 := c_V.c0
        have V1 := c_V.c1
        have V2 := c_V.c2
        have V3 := c_V.c3
        have V4 := c_V.c4
        have Vz := c_V.z
        clear c_V
        have c_U := U.out
        have U0 := c_U.c0
        have U1 := c_U.c1
        have U2 := c_U.c2
        have U3 := c_U.c3
        have U4 := c_U.c4
        have Uz := c_U.z
        clear c_U
        go_upto_region 17 with fail
        clear P0 P1 V0 V1 V2 V3 V4 Vz U0 U1 U2 U3 U4 Uz
        obtain ⟨y4, hy4⟩ : ∃ y4, y4 = putR v5 b_U k2 a2 0 b2 0 := ⟨_, rfl⟩
        have ey4 := hy4.symm
        unfold putR at ey4
        rw [ey4]
        clear ey4
        have D := Lib.hid (show Below x4.heap.size x4 y4 by rw [hy4]; exact putR_below D.out g_U_D.out _ _ _ _ _)
        have E := Lib.hid (show Below x6.heap.size x6 y4 by rw [hy4]; exact putR_below E.out g_U_E.out _ _ _ _ _)
        have P := Lib.hid (show PosAt y4 b_P px py by rw [hy4]; exact P.out.otherR (n_P_U.out))
        have V := Lib.hid (show RgAt y4 b_V k2 a2 0 b2 0 by rw [hy4]; exact V.out.otherR (n_V_U.out))
        have U := Lib.hid (show RgAt y4 b_U k2 a2 0 b2 0 by rw [hy4]; exact U.out.put _ _ _ _ _)
        clear hy4
        have c_P := P.out
        have P0 := c_P.c0
        have P1 := c_P.c1
        clear c_P
        have c_V := V.out
        have V0 := c_V.c0
        have V1 := c_V.c1
        have V2 := c_V.c2
        have V3 := c_V.c3
        have V4 := c_V.c4
        have Vz := c_V.z
        clear c_V
        have c_U := U.out
        have U0 := c_U.c0
        have U1 := c_U.c1
        have U2 := c_U.c2
        have U3 := c_U.c3
        have U4 := c_U.c4
        have Uz := c_U.z
        clear c_U
        go_wp2
        go_roundw
        case rel => exact ⟨t + 1, by have := HT.out; omega, by go_num, E⟩
        case measure => have := HT.out; simp [RowKit.intOf]; omega
      · have e0 : decide (t < 3) = false := decide_eq_false ht
        have e00 : decide ((t : Int) < 3) = false := decide_eq_false (by omega)
        have D := Lib.hid (below_on D.out hws)
        have P := Lib.hid (P.out.below hws P.out.lt)
        clear hws E ht ht3 N
        go_wp2
        obtain ⟨x7, hx7⟩ : ∃ x7, x7 = wr.alloc (.cells #[.bool true, .bool false] 4) := ⟨_, rfl⟩
        have hA : Below wr.heap.size wr x7 := by rw [hx7]; exact (Below.refl _ wr).alloc (Nat.le_refl _) _
        have hV := RowAt.new wr #[.bool true, .bool false] 4
        rw [← hx7] at hV ⊢
        have lt_P := P.out.lt
        have gg_D := D.out.size
        have D := Lib.hid (below_on D.out hA)
        have P := Lib.hid (P.out.below hA P.out.lt)
        obtain ⟨b_B, hbf⟩ : ∃ b, b = wr.heap.size := ⟨_, rfl⟩
        rw [← hbf] at hV ⊢
        have n_P_B := Lib.hid (show b_P ≠ b_B by omega)
        clear lt_P
        have g_B_D := Lib.hid (show x4.heap.size ≤ b_B by rw [hbf]; exact gg_D)
        clear gg_D
        have B := Lib.hid hV
        clear hV hA hx7 hbf
        have c_P := P.out
        have P0 := c_P.c0
        have P1 := c_P.c1
        clear c_P
        clear P0 P1
        clear e0 e00
        go_loopw [97] (fun i ws => ∃ t : Nat, t ≤ 2 ∧ i = .int .i64 t ∧ Hid (Below x7.heap.size x7 ws)) (fun i _ => 2 - (RowKit.intOf i).toNat)
        case atStart => exact ⟨0, by omega, rfl, Below.refl _ _⟩
        case round =>
          obtain ⟨t, ht2, rfl, E⟩ := hrel
          have hws := E.out
          by_cases ht : t < 2
          · obtain ⟨kk, hkk⟩ : ∃ kk : Bool, wr.cell? ⟨b_B, t, none⟩ = some (.bool kk) := by
              have q := B.out.below hws B.out.lt
              obtain rfl | rfl : t = 0 ∨ t = 1 := by omega
              · exact ⟨_, q.at (k := 0) rfl⟩
              · exact ⟨_, q.at (k := 1) rfl⟩
            have D := Lib.hid (below_on D.out hws)
            have P := Lib.hid (P.out.below hws P.out.lt)
            have c1 := fun W (hW : Below x4.heap.size x4 W) => sentence_any a n c' ls px py kk W (SrcV.below HS4.out hW) hs (by omega)
            have d1 := fun W (hW : Below x4.heap.size x4 W) => sentence15_any a n c' ls px py kk W (SrcV.below HS4.out hW) hs (by omega) (by omega)
            obtain ⟨a1, b1, c9, d9, o1, er⟩ := snW_parts (snQ ls px py kk)
            simp only [er] at c1 d1
            have ne1 := fun W => ne_rng 0 a1 b1 c9 d9 W
            clear er
            have c_P := P.out
            have P0 := c_P.c0
            have P1 := c_P.c1
            clear c_P
            go_wp2_with fail
            refine (c1 _ D.out).mono ?_
            rintro e v1 ⟨rfl, hb⟩
            clear P0 P1
            have D := Lib.hid (below_on D.out hb)
            have E := Lib.hid (below_on E.out hb)
            have P := Lib.hid (P.out.below hb P.out.lt)
            clear hb c1 hkk
            have HT := Lib.hid ht
            clear hws ht
            go_upto_region 24 with fail
            obtain ⟨y1, hy1⟩ : ∃ y1, y1 = v1.alloc (.cells #[.int .i64 0, .int .i64 a1, .int .i64 b1, .int .i64 c9, .int .i64 d9] 42) := ⟨_, rfl⟩
            have hA : Below v1.heap.size v1 y1 := by rw [hy1]; exact (Below.refl _ v1).alloc (Nat.le_refl _) _
            have hV := RgAt.new v1 0 a1 b1 c9 d9
            rw [← hy1] at hV ⊢
            have lt_P := P.out.lt
            have gg_D := D.out.size
            have gg_E := E.out.size
            have D := Lib.hid (below_on D.out hA)
            have E := Lib.hid (below_on E.out hA)
            have P := Lib.hid (P.out.below hA P.out.lt)
            obtain ⟨b_V, hbf⟩ : ∃ b, b = v1.heap.size := ⟨_, rfl⟩
            rw [← hbf] at hV ⊢
            have n_P_V := Lib.hid (show b_P ≠ b_V by omega)
            clear lt_P
            have g_V_D := Lib.hid (show x4.heap.size ≤ b_V by rw [hbf]; exact gg_D)
            clear gg_D
            have g_V_E := Lib.hid (show x7.heap.size ≤ b_V by rw [hbf]; exact gg_E)
            clear gg_E
            have V := Lib.hid hV
            clear hV hA hy1 hbf
            have c_P := P.out
            have P0 := c_P.c0
            have P1 := c_P.c1
            clear c_P
            have c_V := V.out
            have V0 := c_V.c0
            have V1 := c_V.c1
            have V2 := c_V.c2
            have V3 := c_V.c3
            have V4 := c_V.c4
            clear c_V
            go_wp2_with fail
            refine (d1 _ D.out).mono ?_
            rintro e v2 ⟨rfl, hb⟩
            clear P0 P1 V0 V1 V2 V3 V4
            have D := Lib.hid (below_on D.out hb)
            have E := Lib.hid (below_on E.out hb)
            have P := Lib.hid (P.out.below hb P.out.lt)
            have V := Lib.hid (V.out.below hb V.out.lt)
            clear hb d1
            go_upto_region 25 with fail
            obtain ⟨y2, hy2⟩ : ∃ y2, y2 = v2.alloc (.cells #[.int .i64 0, .int .i64 a1, .int .i64 b1, .int .i64 c9, .int .i64 d9] 42) := ⟨_, rfl⟩
            have hA : Below v2.heap.size v2 y2 := by rw [hy2]; exact (Below.refl _ v2).alloc (Nat.le_refl _) _
            have hV := RgAt.new v2 0 a1 b1 c9 d9
            rw [← hy2] at hV ⊢
            have lt_P := P.out.lt
            have lt_V := V.out.lt
            have gg_D := D.out.size
            have gg_E := E.out.size
            have D := Lib.hid (below_on D.out hA)
            have E := Lib.hid (below_on E.out hA)
            have P := Lib.hid (P.out.below hA P.out.lt)
            have V := Lib.hid (V.out.below hA V.out.lt)
            obtain ⟨b_U, hbf⟩ : ∃ b, b = v2.heap.size := ⟨_, rfl⟩
            rw [← hbf] at hV ⊢
            have n_P_U := Lib.hid (show b_P ≠ b_U by omega)
            clear lt_P
            have n_V_U := Lib.hid (show b_V ≠ b_U by omega)
            clear lt_V
            have g_U_D := Lib.hid (show x4.heap.size ≤ b_U by rw [hbf]; exact gg_D)
            clear gg_D
            have g_U_E := Lib.hid (show x7.heap.size ≤ b_U by rw [hbf]; exact gg_E)
            clear gg_E
            have U := Lib.hid hV
            clear hV hA hy2 hbf
            have c_P := P.out
            have P0 := c_P.c0
            have P1 := c_P.c1
            clear c_P
            have c_V := V.out
            have V0 := c_V.c0
            have V1 := c_V.c1
            have V2 := c_V.c2
            have V3 := c_V.c3
            have V4 := c_V.c4
            clear c_V
            have c_U := U.out
            have U0 := c_U.c0
            have U1 := c_U.c1
            have U2 := c_U.c2
            have U3 := c_U.c3
            have U4 := c_U.c4
            clear c_U
            go_wp2
            go_roundw
            case rel => exact ⟨t + 1, by have := HT.out; omega, by go_num, E⟩
            case measure => have := HT.out; simp [RowKit.intOf]; omega
          · obtain rfl : t = 2 := by omega
            have D := Lib.hid (below_on D.out hws)
            go_wp2
            go_roundw
            case rel => exact ⟨k + 1, by have := HK.out; omega, by go_num, D⟩
            case measure => have := HK.out; simp [RowKit.intOf]; omega
end Go.Proofs.Ytnngcminomooeaa.XOb
