/-
  The law BracketObjects, walked.
-/
import Derived.Test.YtbimblfkkmpieaaNKn
set_option linter.unusedVariables false
set_option linter.unusedSimpArgs false
set_option maxRecDepth 100000
namespace Go.Proofs.Ytbimblfkkmpieaa.NOb
open Go Go.RowKit Go.Proofs.Ytbimblfkkmpieaa.Vk Go.Proofs.Ytbimblfkkmpieaa.Str Go.Proofs.Ytbimblfkkmpieaa.Ln Go.Proofs.Ytbimblfkkmpieaa.Cl Go.Proofs.Ytbimblfkkmpieaa.Mv Go.Proofs.Ytbimblfkkmpieaa.Pr Go.Proofs.Ytbimblfkkmpieaa.Wd Go.Proofs.Ytbimblfkkmpieaa.Bo
open Go.Proofs.Ytbimblfkkmpieaa.Wo (RgAt putR putR_below rgv eq_rng ne_rng)
attribute [local go_sem] Oper.semAt_some
set_option maxHeartbeats 4000000

theorem walk (a : Option Addr) (n c' : Nat) (ls : List ByteArray) (l c x y ky q : Int) (w : World) (h : Ss w a n c' ls) (hs : ∀ s ∈ ls, s.size ≤ 140737488355328) (hl : (Lit.int .i64 l).wf = true) (hc : (Lit.int .i64 c).wf = true) (hx : (Lit.int .u16 x).wf = true) (hy : (Lit.int .u16 y).wf = true) (hky : (Lit.int .u8 ky).wf = true) (hq0 : (Lit.int .i64 q).wf = true) :
    Calls Try.prog 3 #[.slice a n c', .agg #[.int .i64 l, .int .i64 c], .int .u16 x, .int .u16 y, .int .u8 ky, .int .i64 q] w fun e w' => e = .returned (.bool true) ∧ Below w.heap.size w w' := by
  obtain ⟨w0, hw0⟩ : ∃ w0, w0 = w.alloc (.cells #[.int .i64 l, .int .i64 c] 24) := ⟨_, rfl⟩
  have hk := known_any w0
  have x2 : 0 ≤ x ∧ x ≤ 65535 := by simpa [Lit.wf, IntKind.min, IntKind.max, IntKind.signed, IntKind.bits] using hx
  have y2 : 0 ≤ y ∧ y ≤ 65535 := by simpa [Lit.wf, IntKind.min, IntKind.max, IntKind.signed, IntKind.bits] using hy
  have q2 : -9223372036854775808 ≤ q ∧ q ≤ 9223372036854775807 := by simpa [Lit.wf, IntKind.min, IntKind.max, IntKind.signed, IntKind.bits] using hq0
  have q9 : -4 < q.tmod 4 ∧ q.tmod 4 < 4 := ⟨Int.lt_tmod_of_pos q (by omega), Int.tmod_lt_of_pos q (by omega)⟩
  have eq4 : IntKind.i64.wrap (q.tmod 4) = q.tmod 4 := by rw [IntKind.wrap_i64]; omega
  have k2 : 0 ≤ ky ∧ ky ≤ 255 := by simpa [Lit.wf, IntKind.min, IntKind.max, IntKind.signed, IntKind.bits] using hky
  obtain ⟨b, rfl⟩ : ∃ b : Nat, ky = b := ⟨ky.toNat, by omega⟩
  clear k2 hky
  have hb0 : Below w.heap.size w w0 := by rw [hw0]; exact (Below.refl _ w).alloc (Nat.le_refl _) _
  have hr0 : PosAt w0 w.heap.size l c := by rw [hw0]; exact PosAt.new w l c
  have HW0 := Lib.hid hw0
  clear hw0
  go_enter Try.func3, Try.ntmps3
  go_wp2_with fail
  rw [← HW0.out]
  refine hk.mono ?_
  rintro e w1 ⟨rfl, hb1⟩
  have hs1 := SrcV.below h (hb0.trans (hb1.mono hb0.size))
  have htx := text_any a n c' ls w1 hs1 hs
  have HS1 := Lib.hid hs1
  have HB1 := Lib.hid (hb0.trans (hb1.mono hb0.size))
  have hr1 := hr0.below hb1 hr0.lt
  clear hk hb1 h hb0 hr0 hs1 HW0
  go_wp2_with fail
  refine htx.mono ?_
  rintro e w' ⟨qq, rfl, rfl, hq⟩
  clear htx
  cases qq
  · clear hq
    go_wp2
    go_ret
    exact ⟨rfl, HB1.out⟩
  obtain ⟨hn0, hn40, hz, _⟩ := hq rfl
  clear hq
  have hse := fun W (hW : Below w1.heap.size w1 W) => seat_eq a n c' ls x y W (SrcV.below HS1.out hW) hn0 hs x2 y2
  obtain ⟨i, hi⟩ : ∃ i, i = seatL n x := ⟨_, rfl⟩
  obtain ⟨m, hm⟩ : ∃ m, m = seatC ls n x y := ⟨_, rfl⟩
  rw [← hi, ← hm] at hse
  have r0 := hr1.c0
  have r1 := hr1.c1
  have F0 := fun (C : World → Prop) (hC : Grows w1 C) (z : In C) => hC.cell r0 z
  have F1 := fun (C : World → Prop) (hC : Grows w1 C) (z : In C) => hC.cell r1 z
  clear hi hm hr1
  go_wp2_with fail
  clear r0 r1
  refine wp_region_seg [0, 1, 2, 3, 4, 7] [(5, 1), (6, 0)] (by kernel_rfl) (by kernel_rfl) 106 rfl (by kernel_rfl) ?_
  simp only [List.map_cons, List.map_nil, opOf_succ, opOf_zero]
  apply Exists.intro
  refine ⟨fun C hC => ?_, ?_⟩
  · haveI hI := hC.one
    have f0 := F0 C hC
    have f1 := F1 C hC
    have g1 := fun z : In C => hse z.W (hC.below _ z.isIn)
    repeat (go_big_quiet_step (first | (go_at_call 8; exact Calls.in_of hC (g1 _))))
    exact wpQuiet_nil rfl
  clear F0 F1 hse
  refine wpPath_make rfl fun w2 hb_w2 => ⟨.slice (some ⟨w2.heap.size, 0, none⟩) 2 2, w2.alloc (.cells #[.int .i64 l, .int .i64 c, .int .i64 (i : Int), .int .i64 (m : Int)] 24), rfl, by simp only [opOf_succ, opOf_zero]; go_simp, (Below.refl _ w2).alloc (Nat.le_refl _) _, ?_⟩
  simp only [opOf_succ, opOf_zero, Act.put, List.setIfInBounds_toArray, List.set_cons_zero, List.set_cons_succ]
  have hQ := RowAt.new w2 #[.int .i64 l, .int .i64 c, .int .i64 (i : Int), .int .i64 (m : Int)] 24
  obtain ⟨x3, hx3⟩ : ∃ x3, x3 = w2.alloc (.cells #[.int .i64 l, .int .i64 c, .int .i64 (i : Int), .int .i64 (m : Int)] 24) := ⟨_, rfl⟩
  have hb3 : Below w1.heap.size w1 x3 := by rw [hx3]; exact below_on hb_w2 ((Below.refl _ w2).alloc (Nat.le_refl _) _)
  rw [← hx3] at hQ ⊢
  obtain ⟨b_Q, hbq⟩ : ∃ b, b = w2.heap.size := ⟨_, rfl⟩
  rw [← hbq] at hQ ⊢
  clear hx3 hbq hb_w2
  refine wpPath_on (r := []) [6] 106 rfl (by kernel_rfl) ?_
  simp only [List.map_cons, List.map_nil, opOf_succ, opOf_zero]
  apply Exists.intro
  refine ⟨fun C hC => ?_, ?_⟩
  · haveI hI := hC.one
    repeat (go_big_quiet_step (fail))
    exact wpQuiet_nil rfl
  refine wpPath_end fun x4 hb4 => ?_
  have Q := Lib.hid (hQ.below hb4 hQ.lt)
  have HS4 := Lib.hid (SrcV.below HS1.out (below_on hb3 hb4))
  have HB4 := Lib.hid (below_on HB1.out (below_on hb3 hb4))
  clear hQ hb3 hb4 HS1 HB1
  go_wp2
  go_loopw [35] (fun i wr => ∃ k : Nat, k ≤ 2 ∧ i = .int .i64 k ∧ Hid (Below x4.heap.size x4 wr)) (fun i _ => 2 - (RowKit.intOf i).toNat)
  case atStart => exact ⟨0, by omega, rfl, Below.refl _ _⟩
  case round =>
    obtain ⟨k, hk2, rfl, D⟩ := hrel
    by_cases hk : k < 2
    rotate_left
    · obtain rfl : k = 2 := by omega
      go_wp2
      go_ret
      exact ⟨rfl, below_on HB4.out D.out⟩
    obtain ⟨px, py, hx0, hy0⟩ : ∃ px py : Int, wr.cell? ⟨b_Q, k * 2, none⟩ = some (.int .i64 px) ∧ wr.cell? ⟨b_Q, k * 2 + 1, none⟩ = some (.int .i64 py) := by
      have q := Q.out.below D.out Q.out.lt
      obtain rfl | rfl : k = 0 ∨ k = 1 := by omega
      · exact ⟨l, c, q.at (k := 0) rfl, q.at (k := 1) rfl⟩
      · exact ⟨i, m, q.at (k := 2) rfl, q.at (k := 3) rfl⟩
    go_upto_region 8 with fail
    obtain ⟨x5, hx5⟩ : ∃ x5, x5 = wr.alloc (.cells #[.int .i64 px, .int .i64 py] 24) := ⟨_, rfl⟩
    have hA : Below wr.heap.size wr x5 := by rw [hx5]; exact (Below.refl _ wr).alloc (Nat.le_refl _) _
    have hV := PosAt.new wr px py
    rw [← hx5] at hV ⊢
    have gg_D := D.out.size
    have D := Lib.hid (below_on D.out hA)
    obtain ⟨b_P, hbf⟩ : ∃ b, b = wr.heap.size := ⟨_, rfl⟩
    rw [← hbf] at hV ⊢
    have g_P_D := Lib.hid (show x4.heap.size ≤ b_P by rw [hbf]; exact gg_D)
    clear gg_D
    have P := Lib.hid hV
    clear hV hA hx5 hbf
    have c_P := P.out
    have P0 := c_P.c0
    have P1 := c_P.c1
    clear c_P
    clear hx0 hy0
    have HK := Lib.hid hk
    clear hk
    rename (k : Int) < 2 => hki
    clear hki
    go_wp2
    obtain ⟨x6, hx6⟩ : ∃ x6, x6 = x5.alloc (.cells #[.int .u8 b, .int .u8 40, .int .u8 91, .int .u8 123, .int .u8 41] 5) := ⟨_, rfl⟩
    have hA : Below x5.heap.size x5 x6 := by rw [hx6]; exact (Below.refl _ x5).alloc (Nat.le_refl _) _
    have hV := RowAt.new x5 #[.int .u8 b, .int .u8 40, .int .u8 91, .int .u8 123, .int .u8 41] 5
    rw [← hx6] at hV ⊢
    have lt_P := P.out.lt
    have gg_D := D.out.size
    have D := Lib.hid (below_on D.out hA)
    have P := Lib.hid (P.out.below hA P.out.lt)
    obtain ⟨b_N, hbf⟩ : ∃ b, b = x5.heap.size := ⟨_, rfl⟩
    rw [← hbf] at hV ⊢
    have n_P_N := Lib.hid (show b_P ≠ b_N by omega)
    clear lt_P
    have g_N_D := Lib.hid (show x4.heap.size ≤ b_N by rw [hbf]; exact gg_D)
    clear gg_D
    have N := Lib.hid hV
    clear hV hA hx6 hbf
    clear P0 P1
    have c_P := P.out
    have P0 := c_P.c0
    have P1 := c_P.c1
    clear c_P
    clear P0 P1
    go_loopw [42] (fun i ws => ∃ t : Nat, t ≤ 5 ∧ i = .int .i64 t ∧ Hid (Below x6.heap.size x6 ws)) (fun i _ => 5 - (RowKit.intOf i).toNat)
    case atStart => exact ⟨0, by omega, rfl, Below.refl _ _⟩
    case round =>
      obtain ⟨t, ht4, rfl, E⟩ := hrel
      have hws := E.out
      by_cases ht : t < 5
      · obtain ⟨kk, hkk⟩ : ∃ kk : Nat, wr.cell? ⟨b_N, t, none⟩ = some (.int .u8 kk) := by
          have q := N.out.below hws N.out.lt
          obtain rfl | rfl | rfl | rfl | rfl : t = 0 ∨ t = 1 ∨ t = 2 ∨ t = 3 ∨ t = 4 := by omega
          · exact ⟨_, q.at (k := 0) rfl⟩
          · exact ⟨40, q.at (k := 1) rfl⟩
          · exact ⟨91, q.at (k := 2) rfl⟩
          · exact ⟨123, q.at (k := 3) rfl⟩
          · exact ⟨41, q.at (k := 4) rfl⟩
        have D := Lib.hid (below_on D.out hws)
        have P := Lib.hid (P.out.below hws P.out.lt)
        clear hws
        go_upto_region 11 with fail
        clear hkk
        have HT := Lib.hid ht
        clear ht
        rename (t : Int) < 5 => hti
        clear hti
        go_wp2
        obtain ⟨x7, hx7⟩ : ∃ x7, x7 = wr.alloc (.cells #[.int .i64 q, .int .i64 (q.tmod 4), .int .i64 1] 3) := ⟨_, rfl⟩
        have hA : Below wr.heap.size wr x7 := by rw [hx7]; exact (Below.refl _ wr).alloc (Nat.le_refl _) _
        have hV := RowAt.new wr #[.int .i64 q, .int .i64 (q.tmod 4), .int .i64 1] 3
        rw [← hx7] at hV ⊢
        have lt_P := P.out.lt
        have gg_D := D.out.size
        have gg_E := E.out.size
        have D := Lib.hid (below_on D.out hA)
        have E := Lib.hid (below_on E.out hA)
        have P := Lib.hid (P.out.below hA P.out.lt)
        obtain ⟨b_O, hbf⟩ : ∃ b, b = wr.heap.size := ⟨_, rfl⟩
        rw [← hbf] at hV ⊢
        have n_P_O := Lib.hid (show b_P ≠ b_O by omega)
        clear lt_P
        have g_O_D := Lib.hid (show x4.heap.size ≤ b_O by rw [hbf]; exact gg_D)
        clear gg_D
        have g_O_E := Lib.hid (show x6.heap.size ≤ b_O by rw [hbf]; exact gg_E)
        clear gg_E
        have O := Lib.hid hV
        clear hV hA hx7 hbf
        have c_P := P.out
        have P0 := c_P.c0
        have P1 := c_P.c1
        clear c_P
        clear P0 P1
        go_loopw [51] (fun i ws => ∃ s : Nat, s ≤ 3 ∧ i = .int .i64 s ∧ Hid (Below x7.heap.size x7 ws)) (fun i _ => 3 - (RowKit.intOf i).toNat)
        case atStart => exact ⟨0, by omega, rfl, Below.refl _ _⟩
        case round =>
          obtain ⟨s, hs2, rfl, F⟩ := hrel
          have hws := F.out
          by_cases hss : s < 3
          · obtain ⟨tt, htt, ht63⟩ : ∃ tt : Int, wr.cell? ⟨b_O, s, none⟩ = some (.int .i64 tt) ∧ tt ≤ 9223372036854775807 := by
              have q := O.out.below hws O.out.lt
              obtain rfl | rfl | rfl : s = 0 ∨ s = 1 ∨ s = 2 := by omega
              · exact ⟨_, q.at (k := 0) rfl, q2.2⟩
              · exact ⟨_, q.at (k := 1) rfl, by omega⟩
              · exact ⟨_, q.at (k := 2) rfl, by omega⟩
            have D := Lib.hid (below_on D.out hws)
            have E := Lib.hid (below_on E.out hws)
            have P := Lib.hid (P.out.below hws P.out.lt)
            clear hws
            have c1 := fun W (hW : Below x4.heap.size x4 W) => inner_any a n c' ls px py kk tt W (SrcV.below HS4.out hW) hs (by omega) (by omega) ht63
            have d1 := fun W (hW : Below x4.heap.size x4 W) => bracket15_any a n c' ls px py kk tt false W (SrcV.below HS4.out hW) hs (by omega) (by omega) ht63
            obtain ⟨l1, a1, m1, b1, o1, er1⟩ := brV_parts false (brk ls px py kk tt)
            simp only [er1] at c1 d1
            have ne1 := fun W => ne_rng 0 l1 a1 m1 b1 W
            clear er1
            have c2 := fun W (hW : Below x4.heap.size x4 W) => around_any a n c' ls px py kk tt W (SrcV.below HS4.out hW) hs (by omega) (by omega) ht63
            have d2 := fun W (hW : Below x4.heap.size x4 W) => bracket15_any a n c' ls px py kk tt true W (SrcV.below HS4.out hW) hs (by omega) (by omega) ht63
            obtain ⟨l2, a2, m2, b2, o2, er2⟩ := brV_parts true (brk ls px py kk tt)
            simp only [er2] at c2 d2
            have ne2 := fun W => ne_rng 0 l2 a2 m2 b2 W
            clear er2
            have c_P := P.out
            have P0 := c_P.c0
            have P1 := c_P.c1
            clear c_P
            go_wp2_with fail
            refine (c1 _ D.out).mono ?_
            rintro e v1 ⟨rfl, hb⟩
            clear P0 P1
            have D := Lib.hid (below_on D.out hb)
            have E := Lib.hid (below_on E.out hb)
            have F := Lib.hid (below_on F.out hb)
            have P := Lib.hid (P.out.below hb P.out.lt)
            clear hb c1 htt
            go_upto_region 15 with fail
            obtain ⟨y1, hy1⟩ : ∃ y1, y1 = v1.alloc (.cells #[.int .i64 0, .int .i64 l1, .int .i64 a1, .int .i64 m1, .int .i64 b1] 33) := ⟨_, rfl⟩
            have hA : Below v1.heap.size v1 y1 := by rw [hy1]; exact (Below.refl _ v1).alloc (Nat.le_refl _) _
            have hV := RgAt.new v1 0 l1 a1 m1 b1
            rw [← hy1] at hV ⊢
            have lt_P := P.out.lt
            have gg_D := D.out.size
            have gg_E := E.out.size
            have gg_F := F.out.size
            have D := Lib.hid (below_on D.out hA)
            have E := Lib.hid (below_on E.out hA)
            have F := Lib.hid (below_on F.out hA)
            have P := Lib.hid (P.out.below hA P.out.lt)
            obtain ⟨b_V, hbf⟩ : ∃ b, b = v1.heap.size := ⟨_, rfl⟩
            rw [← hbf] at hV ⊢
            have n_P_V := Lib.hid (show b_P ≠ b_V by omega)
            clear lt_P
            have g_V_D := Lib.hid (show x4.heap.size ≤ b_V by rw [hbf]; exact gg_D)
            clear gg_D
            have g_V_E := Lib.hid (show x6.heap.size ≤ b_V by rw [hbf]; exact gg_E)
            clear gg_E
            have g_V_F := Lib.hid (show x7.heap.size ≤ b_V by rw [hbf]; exact gg_F)
            clear gg_F
            have V := Lib.hid hV
            clear hV hA hy1 hbf
            have c_P := P.out
            have P0 := c_P.c0
            have P1 := c_P.c1
            clear c_P
            have c_V := V.out
            have V0 := c_V.c0
            have V1 := c_V.c1
            have V2 := c_V.c2
            have V3 := c_V.c3
            have V4 := c_V.c4
            have Vz := c_V.z
            clear c_V
            go_wp2_with fail
            refine (d1 _ D.out).mono ?_
            rintro e v2 ⟨rfl, hb⟩
            clear P0 P1 V0 V1 V2 V3 V4 Vz
            have D := Lib.hid (below_on D.out hb)
            have E := Lib.hid (below_on E.out hb)
            have F := Lib.hid (below_on F.out hb)
            have P := Lib.hid (P.out.below hb P.out.lt)
            have V := Lib.hid (V.out.below hb V.out.lt)
            clear hb d1
            go_upto_region 16 with fail
            obtain ⟨y2, hy2⟩ : ∃ y2, y2 = v2.alloc (.cells #[.int .i64 0, .int .i64 l1, .int .i64 a1, .int .i64 m1, .int .i64 b1] 33) := ⟨_, rfl⟩
            have hA : Below v2.heap.size v2 y2 := by rw [hy2]; exact (Below.refl _ v2).alloc (Nat.le_refl _) _
            have hV := RgAt.new v2 0 l1 a1 m1 b1
            rw [← hy2] at hV ⊢
            have lt_P := P.out.lt
            have lt_V := V.out.lt
            have gg_D := D.out.size
            have gg_E := E.out.size
            have gg_F := F.out.size
            have D := Lib.hid (below_on D.out hA)
            have E := Lib.hid (below_on E.out hA)
            have F := Lib.hid (below_on F.out hA)
            have P := Lib.hid (P.out.below hA P.out.lt)
            have V := Lib.hid (V.out.below hA V.out.lt)
            obtain ⟨b_U, hbf⟩ : ∃ b, b = v2.heap.size := ⟨_, rfl⟩
            rw [← hbf] at hV ⊢
            have n_P_U := Lib.hid (show b_P ≠ b_U by omega)
            clear lt_P
            have n_V_U := Lib.hid (show b_V ≠ b_U by omega)
            clear lt_V
            have g_U_D := Lib.hid (show x4.heap.size ≤ b_U by rw [hbf]; exact gg_D)
            clear gg_D
            have g_U_E := Lib.hid (show x6.heap.size ≤ b_U by rw [hbf]; exact gg_E)
            clear gg_E
            have g_U_F := Lib.hid (show x7.heap.size ≤ b_U by rw [hbf]; exact gg_F)
            clear gg_F
            have U := Lib.hid hV
            clear hV hA hy2 hbf
            have c_P := P.out
            have P0 := c_P.c0
            have P1 := c_P.c1
            clear c_P
            have c_V := V.out
            have V0 := c_V.c0
            have V1 := c_V.c1
            have V2 := c_V.c2
            have V3 := c_V.c3
            have V4 := c_V.c4
            have Vz := c_V.z
            clear c_V
            have c_U := U.out
            have U0 := c_U.c0
            have U1 := c_U.c1
            have U2 := c_U.c2
            have U3 := c_U.c3
            have U4 := c_U.c4
            have Uz := c_U.z
            clear c_U
            go_wp2_with fail
            refine (c2 _ D.out).mono ?_
            rintro e v4 ⟨rfl, hb⟩
            clear P0 P1 V0 V1 V2 V3 V4 Vz U0 U1 U2 U3 U4 Uz
            have D := Lib.hid (below_on D.out hb)
            have E := Lib.hid (below_on E.out hb)
            have F := Lib.hid (below_on F.out hb)
            have P := Lib.hid (P.out.below hb P.out.lt)
            have V := Lib.hid (V.out.below hb V.out.lt)
            have U := Lib.hid (U.out.below hb U.out.lt)
            clear hb c2
            have c_P := P.out
            have P0 := c_P.c0
            have P1 := c_P.c1
            clear c_P
            have c_V := V.out
            have V0 := c_V.c0
            have V1 := c_V.c1
            have V2 := c_V.c2
            have V3 := c_V.c3
            have V4 := c_V.c4
            have Vz := c_V.z
            clear c_V
            have c_U := U.out
            have U0 := c_U.c0
            have U1 := c_U.c1
            have U2 := c_U.c2
            have U3 := c_U.c3
            have U4 := c_U.c4
            have Uz := c_U.z
            clear c_U
            go_upto_region 19 with fail
            clear P0 P1 V0 V1 V2 V3 V4 Vz U0 U1 U2 U3 U4 Uz
            obtain ⟨y3, hy3⟩ : ∃ y3, y3 = putR v4 b_V 0 l2 a2 m2 b2 := ⟨_, rfl⟩
            have ey3 := hy3.symm
            unfold putR at ey3
            rw [ey3]
            clear ey3
            have D := Lib.hid (show Below x4.heap.size x4 y3 by rw [hy3]; exact putR_below D.out g_V_D.out _ _ _ _ _)
            have E := Lib.hid (show Below x6.heap.size x6 y3 by rw [hy3]; exact putR_below E.out g_V_E.out _ _ _ _ _)
            have F := Lib.hid (show Below x7.heap.size x7 y3 by rw [hy3]; exact putR_below F.out g_V_F.out _ _ _ _ _)
            have P := Lib.hid (show PosAt y3 b_P px py by rw [hy3]; exact P.out.otherR (n_P_V.out))
            have V := Lib.hid (show RgAt y3 b_V 0 l2 a2 m2 b2 by rw [hy3]; exact V.out.put _ _ _ _ _)
            have U := Lib.hid (show RgAt y3 b_U 0 l1 a1 m1 b1 by rw [hy3]; exact U.out.otherR (n_V_U.out.symm))
            clear hy3
            have c_P := P.out
            have P0 := c_P.c0
            have P1 := c_P.c1
            clear c_P
            have c_V := V.out
            have V0 := c_V.c0
            have V1 := c_V.c1
            have V2 := c_V.c2
            have V3 := c_V.c3
            have V4 := c_V.c4
            have Vz := c_V.z
            clear c_V
            have c_U := U.out
            have U0 := c_U.c0
            have U1 := c_U.c1
            have U2 := c_U.c2
            have U3 := c_U.c3
            have U4 := c_U.c4
            have Uz := c_U.z
            clear c_U
            go_wp2_with fail
            refine (d2 _ D.out).mono ?_
            rintro e v5 ⟨rfl, hb⟩
            clear P0 P1 V0 V1 V2 V3 V4 Vz U0 U1 U2 U3 U4 Uz
            have D := Lib.hid (below_on D.out hb)
            have E := Lib.hid (below_on E.out hb)
            have F := Lib.hid (below_on F.out hb)
            have P := Lib.hid (P.out.below hb P.out.lt)
            have V := Lib.hid (V.out.below hb V.out.lt)
            have U := Lib.hid (U.out.below hb U.out.lt)
            clear hb d2
            have c_P := P.out
            have P0 := c_P.c0
            have P1 := c_P.c1
            clear c_P
            have c_V := V.out
            have V0 := c_V.c0
            have V1 := c_V.c1
            have V2 := c_V.c2
            have V3 := c_V.c3
            have V4 := c_V.c4
            have Vz := c_V.z
            clear c_V
            have c_U := U.out
            have U0 := c_U.c0
            have U1 := c_U.c1
            have U2 := c_U.c2
            have U3 := c_U.c3
            have U4 := c_U.c4
            have Uz := c_U.z
            clear c_U
            go_upto_region 20 with fail
            clear P0 P1 V0 V1 V2 V3 V4 Vz U0 U1 U2 U3 U4 Uz
            obtain ⟨y4, hy4⟩ : ∃ y4, y4 = putR v5 b_U 0 l2 a2 m2 b2 := ⟨_, rfl⟩
            have ey4 := hy4.symm
            unfold putR at ey4
            rw [ey4]
            clear ey4
            have D := Lib.hid (show Below x4.heap.size x4 y4 by rw [hy4]; exact putR_below D.out g_U_D.out _ _ _ _ _)
            have E := Lib.hid (show Below x6.heap.size x6 y4 by rw [hy4]; exact putR_below E.out g_U_E.out _ _ _ _ _)
            have F := Lib.hid (show Below x7.heap.size x7 y4 by rw [hy4]; exact putR_below F.out g_U_F.out _ _ _ _ _)
            have P := Lib.hid (show PosAt y4 b_P px py by rw [hy4]; exact P.out.otherR (n_P_U.out))
            have V := Lib.hid (show RgAt y4 b_V 0 l2 a2 m2 b2 by rw [hy4]; exact V.out.otherR (n_V_U.out))
            have U := Lib.hid (show RgAt y4 b_U 0 l2 a2 m2 b2 by rw [hy4]; exact U.out.put _ _ _ _ _)
            clear hy4
            have c_P := P.out
            have P0 := c_P.c0
            have P1 := c_P.c1
            clear c_P
            have c_V := V.out
            have V0 := c_V.c0
            have V1 := c_V.c1
            have V2 := c_V.c2
            have V3 := c_V.c3
            have V4 := c_V.c4
            have Vz := c_V.z
            clear c_V
            have c_U := U.out
            have U0 := c_U.c0
            have U1 := c_U.c1
            have U2 := c_U.c2
            have U3 := c_U.c3
            have U4 := c_U.c4
            have Uz := c_U.z
            clear c_U
            go_wp2
            go_roundw
            case rel => exact ⟨s + 1, by omega, by go_num, F⟩
            case measure => simp [RowKit.intOf]; omega
          · obtain rfl : s = 3 := by omega
            have E := Lib.hid (below_on E.out hws)
            go_wp2
            go_roundw
            case rel => exact ⟨t + 1, by have := HT.out; omega, by go_num, E⟩
            case measure => have := HT.out; simp [RowKit.intOf]; omega
      · obtain rfl : t = 5 := by omega
        have D := Lib.hid (below_on D.out hws)
        go_wp2
        go_roundw
        case rel => exact ⟨k + 1, by have := HK.out; omega, by go_num, D⟩
        case measure => have := HK.out; simp [RowKit.intOf]; omega
end Go.Proofs.Ytbimblfkkmpieaa.NOb
