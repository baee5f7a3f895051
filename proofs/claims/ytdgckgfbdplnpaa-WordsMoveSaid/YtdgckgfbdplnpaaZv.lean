/-
  The document: Next.
-/
import Derived.Test.YtdgckgfbdplnpaaZo
import Derived.Test.YtdgckgfbdplnpaaZe
import Derived.Test.YtdgckgfbdplnpaaTw
import Derived.Test.YtdgckgfbdplnpaaMp
set_option linter.unusedVariables false
set_option linter.unusedSimpArgs false
set_option maxRecDepth 100000
namespace Go.Proofs.Ytdgckgfbdplnpaa.Wd
open Go Go.RowKit Go.Proofs.Ytdgckgfbdplnpaa.Vk Go.Proofs.Ytdgckgfbdplnpaa.Str Go.Proofs.Ytdgckgfbdplnpaa.Ln Go.Proofs.Ytdgckgfbdplnpaa.Cl Go.Proofs.Ytdgckgfbdplnpaa.Mv
attribute [local go_sem] Oper.semAt_some

set_option maxHeartbeats 8000000 in
theorem next5_any (a : Option Addr) (n c' : Nat) (ls : List ByteArray) (l c : Int) (nn : Int) (big op : Bool) (w : World) (h : Ss w a n c' ls) (hs : ∀ s ∈ ls, s.size ≤ 140737488355328) (htz : tz ls ≤ 900000) (hnn : nn ≤ 9223372036854775807) :
    Calls Try.prog 19 #[.slice a n c', .agg #[.int .i64 l, .int .i64 c], .int .i64 nn, .bool big, .bool op] w fun e w' => e = .returned (nextR ls l c nn big op).v ∧ Below w.heap.size w w' := by
  have hlen := h.length
  have hn := h.le63
  by_cases hpk : Plc ls l c ∧ 1 ≤ nn
  · obtain ⟨hp, hk⟩ := hpk
    have hp0 := hp
    obtain ⟨i, k, rfl, rfl, hi, hkk⟩ := hp0.nat
    obtain ⟨m, rfl⟩ : ∃ m : Nat, nn = m := ⟨nn.toNat, by omega⟩
    have hm1 : 1 ≤ m := by omega
    have hr : nextR ls i k m big op = mvd (if op = true then opV ls (i, k) (aft (sts big ls) (i, k)) m else nthV (aft (sts big ls) (i, k)) m) 0 := ifm_yes hp hm1
    rw [hr]
    obtain ⟨q, hq⟩ : ∃ q : P2 × Bool, q = (if op = true then opV ls (i, k) (aft (sts big ls) (i, k)) m else nthV (aft (sts big ls) (i, k)) m) := ⟨_, rfl⟩
    rw [← hq]
    obtain ⟨r, hrr⟩ : ∃ r, r = mvd q 0 := ⟨_, rfl⟩
    rw [← hrr]
    have HQ := Lib.hid hq
    have HR := Lib.hid hrr
    clear hq hrr
    obtain ⟨X, hX⟩ : ∃ X, X = ((w.alloc (.cells #[.int .i64 (i : Int), .int .i64 (k : Int)] 35)).alloc (.cells #[.int .i64 0, .int .i64 0, .int .i64 0, .bool false, .int .i64 0] 40)) := ⟨_, rfl⟩
    have hT : Two w X i k := by rw [hX]; exact Two.new w i k
    have HX := Lib.hid hX
    have h1 := may_any a n c' ls i k m X (SrcV.below h hT.below)
    rw [decide_eq_true (p := Plc ls (i : Int) (k : Int) ∧ 1 ≤ (m : Int)) ⟨hp, hk⟩] at h1
    have hH := Lib.hid h
    have p0 := hT.pos.c0
    have p1 := hT.pos.c1
    have m0 := hT.mv.c0
    have m1 := hT.mv.c1
    have m2 := hT.mv.c2
    have m3 := hT.mv.c3
    have m4 := hT.mv.c4
    have z := hT.mv.z
    clear hr hX hp hk hkk h
    go_enter Try.func19, Try.ntmps19
    go_wp2_with fail
    rw [← HX.out]
    refine h1.mono ?_
    rintro e w1 ⟨rfl, hb_w1⟩
    have T1 := hT.on hb_w1
    clear p0 p1 m0 m1 m2 m3 m4 z h1 HX hT hb_w1
    have p0 := T1.pos.c0
    have p1 := T1.pos.c1
    have m0 := T1.mv.c0
    have m1 := T1.mv.c1
    have m2 := T1.mv.c2
    have m3 := T1.mv.c3
    have m4 := T1.mv.c4
    have z := T1.mv.z
    have HTZ := Lib.hid htz
    have HS1 := Lib.hid (SrcV.below hH.out T1.below)
    clear htz
    cases op
    · simp only [Bool.false_eq_true, if_false] at HQ
      go_wp2_with fail
      have F_p0 := fun (C : World → Prop) (hC : Grows w1 C) (y : In C) => hC.cell p0 y
      have F_p1 := fun (C : World → Prop) (hC : Grows w1 C) (y : In C) => hC.cell p1 y
      clear p0 p1 m0 m1 m2 m3 m4 z
      refine wp_region_seg [0, 1, 3] [(2, 1), (4, 1), (5, 2)] (by kernel_rfl) (by kernel_rfl) 90 rfl (by kernel_rfl) ?_
      simp only [List.map_cons, List.map_nil, opOf_succ, opOf_zero]
      apply Exists.intro
      refine ⟨fun C hC => ?_, ?_⟩
      · haveI hI := hC.one
        have f_p0 := F_p0 C hC
        have f_p1 := F_p1 C hC
        repeat (go_big_quiet_step (fail))
        exact wpQuiet_nil rfl
      clear F_p0 F_p1
      refine wpPath_call (f := 13) (args := #[.slice a n c', .bool big]) rfl rfl (fun W => by simp only [opOf_succ, opOf_zero]; go_simp) ?_
      intro A1 hb_A1
      refine (starts5_n a n c' ls big A1 (SrcV.below HS1.out hb_A1) hs HTZ.out).mono ?_
      rintro e A2 ⟨b1, N1, c1, rfl, hps1, hb_A2⟩
      refine ⟨_, rfl, hb_A2, ?_⟩
      simp only [opOf_succ, opOf_zero, Act.put, List.setIfInBounds_toArray, List.set_cons_zero, List.set_cons_succ]
      have hl2 : N1 ≤ 2000000 := by rw [← hps1.length]; exact Nat.le_trans (mks_tz _ _ _) (Nat.le_trans HTZ.out (by omega))
      refine wpPath_call (f := 40) (args := #[.slice b1 N1 c1, .agg #[.int .i64 i, .int .i64 k], .bool false]) rfl rfl (fun W => by simp only [opOf_succ, opOf_zero]; go_simp) ?_
      intro A3 hb_A3
      refine (behind5_n b1 _ c1 (sts big ls) (i, k) false A3 (hps1.below hb_A3) hl2).mono ?_
      rintro e A4 ⟨b2, N2, c2, rfl, hps, hb_A4⟩
      refine ⟨_, rfl, hb_A4, ?_⟩
      simp only [opOf_succ, opOf_zero, Act.put, List.setIfInBounds_toArray, List.set_cons_zero, List.set_cons_succ]
      refine wpPath_free (v := .slice b2 N2 c2) rfl rfl (fun _ => rfl) ?_
      simp only [opOf_succ, opOf_zero, Act.put, List.setIfInBounds_toArray, List.set_cons_zero, List.set_cons_succ]
      refine wpPath_end fun w2 hb_e => ?_
      have T2 := (T1.on (below_on hb_A1 hb_A2)).on (below_on hb_A3 (below_on hb_A4 hb_e))
      rw [bhd_aft] at hps
      have HPS := Lib.hid (hps.below hb_e)
      have HS2 := Lib.hid (SrcV.below HS1.out (below_on (below_on hb_A1 hb_A2) (below_on hb_A3 (below_on hb_A4 hb_e))))
      clear hps hps1 hb_A1 hb_A2 hb_A3 hb_A4 hb_e hl2
      obtain ⟨xs, hxs⟩ : ∃ xs, xs = aft (sts big ls) (i, k) := ⟨_, rfl⟩
      rw [← hxs] at HPS HQ
      have hNx : xs.length = N2 := HPS.out.length
      have hxl : ∀ x ∈ xs, x.1 < ls.length := fun x hx => by rw [hxs] at hx; exact (mks_mem (List.mem_filter.1 hx).1).1
      have hN2 : N2 ≤ 900000 := by
        rw [← hNx, hxs]
        have h1 := List.length_filter_le (fun x => lp (i, k) x) (sts big ls)
        have h2 : (sts big ls).length ≤ tz ls := mks_tz _ _ _
        have h3 := HTZ.out
        unfold aft; omega
      clear hxs
      have p0 := T2.pos.c0
      have p1 := T2.pos.c1
      have m0 := T2.mv.c0
      have m1 := T2.mv.c1
      have m2 := T2.mv.c2
      have m3 := T2.mv.c3
      have m4 := T2.mv.c4
      have z := T2.mv.z
      have hnth := nth5_any b2 N2 c2 xs m 0 w2 HPS.out hm1 (by omega)
      rw [← HQ.out, ← HR.out] at hnth
      go_wp2_with fail
      refine hnth.mono ?_
      rintro e w3 ⟨rfl, hb3⟩
      have T3 := T2.on hb3
      clear hnth hb3 p0 p1 m0 m1 m2 m3 m4 z
      have p0 := T3.pos.c0
      have p1 := T3.pos.c1
      have m0 := T3.mv.c0
      have m1 := T3.mv.c1
      have m2 := T3.mv.c2
      have m3 := T3.mv.c3
      have m4 := T3.mv.c4
      have z := T3.mv.z
      go_wp2
      obtain ⟨hg, hb⟩ := T3.ret r.l r.c r.way r.want r.j
      exact ret_mv (r := r) (g := w.heap.size + 1) rfl rfl rfl rfl hg ⟨rfl, hb⟩
    · simp only [if_true] at HQ
      go_wp2_with fail
      have F_p0 := fun (C : World → Prop) (hC : Grows w1 C) (y : In C) => hC.cell p0 y
      have F_p1 := fun (C : World → Prop) (hC : Grows w1 C) (y : In C) => hC.cell p1 y
      clear p0 p1 m0 m1 m2 m3 m4 z
      refine wp_region_seg [0, 1, 3] [(2, 1), (4, 1), (5, 2)] (by kernel_rfl) (by kernel_rfl) 90 rfl (by kernel_rfl) ?_
      simp only [List.map_cons, List.map_nil, opOf_succ, opOf_zero]
      apply Exists.intro
      refine ⟨fun C hC => ?_, ?_⟩
      · haveI hI := hC.one
        have f_p0 := F_p0 C hC
        have f_p1 := F_p1 C hC
        repeat (go_big_quiet_step (fail))
        exact wpQuiet_nil rfl
      clear F_p0 F_p1
      refine wpPath_call (f := 13) (args := #[.slice a n c', .bool big]) rfl rfl (fun W => by simp only [opOf_succ, opOf_zero]; go_simp) ?_
      intro A1 hb_A1
      refine (starts5_n a n c' ls big A1 (SrcV.below HS1.out hb_A1) hs HTZ.out).mono ?_
      rintro e A2 ⟨b1, N1, c1, rfl, hps1, hb_A2⟩
      refine ⟨_, rfl, hb_A2, ?_⟩
      simp only [opOf_succ, opOf_zero, Act.put, List.setIfInBounds_toArray, List.set_cons_zero, List.set_cons_succ]
      have hl2 : N1 ≤ 2000000 := by rw [← hps1.length]; exact Nat.le_trans (mks_tz _ _ _) (Nat.le_trans HTZ.out (by omega))
      refine wpPath_call (f := 40) (args := #[.slice b1 N1 c1, .agg #[.int .i64 i, .int .i64 k], .bool false]) rfl rfl (fun W => by simp only [opOf_succ, opOf_zero]; go_simp) ?_
      intro A3 hb_A3
      refine (behind5_n b1 _ c1 (sts big ls) (i, k) false A3 (hps1.below hb_A3) hl2).mono ?_
      rintro e A4 ⟨b2, N2, c2, rfl, hps, hb_A4⟩
      refine ⟨_, rfl, hb_A4, ?_⟩
      simp only [opOf_succ, opOf_zero, Act.put, List.setIfInBounds_toArray, List.set_cons_zero, List.set_cons_succ]
      refine wpPath_free (v := .slice b2 N2 c2) rfl rfl (fun _ => rfl) ?_
      simp only [opOf_succ, opOf_zero, Act.put, List.setIfInBounds_toArray, List.set_cons_zero, List.set_cons_succ]
      refine wpPath_end fun w2 hb_e => ?_
      have T2 := (T1.on (below_on hb_A1 hb_A2)).on (below_on hb_A3 (below_on hb_A4 hb_e))
      rw [bhd_aft] at hps
      have HPS := Lib.hid (hps.below hb_e)
      have HS2 := Lib.hid (SrcV.below HS1.out (below_on (below_on hb_A1 hb_A2) (below_on hb_A3 (below_on hb_A4 hb_e))))
      clear hps hps1 hb_A1 hb_A2 hb_A3 hb_A4 hb_e hl2
      obtain ⟨xs, hxs⟩ : ∃ xs, xs = aft (sts big ls) (i, k) := ⟨_, rfl⟩
      rw [← hxs] at HPS HQ
      have hNx : xs.length = N2 := HPS.out.length
      have hxl : ∀ x ∈ xs, x.1 < ls.length := fun x hx => by rw [hxs] at hx; exact (mks_mem (List.mem_filter.1 hx).1).1
      have hN2 : N2 ≤ 900000 := by
        rw [← hNx, hxs]
        have h1 := List.length_filter_le (fun x => lp (i, k) x) (sts big ls)
        have h2 : (sts big ls).length ≤ tz ls := mks_tz _ _ _
        have h3 := HTZ.out
        unfold aft; omega
      clear hxs
      obtain ⟨b_P, hbP⟩ : ∃ b, b = w.heap.size := ⟨_, rfl⟩
      obtain ⟨b_R, hbR⟩ : ∃ b, b = w.heap.size + 1 := ⟨_, rfl⟩
      have P := Lib.hid (show PosAt w2 b_P i k by rw [hbP]; exact T2.pos)
      have R := Lib.hid (show MvAt w2 b_R 0 0 0 false 0 by rw [hbR]; exact T2.mv)
      have n_P_R := Lib.hid (show b_P ≠ b_R by omega)
      have g_P_D := Lib.hid (show w.heap.size ≤ b_P by omega)
      have g_R_D := Lib.hid (show w.heap.size ≤ b_R by omega)
      have D := Lib.hid T2.below
      have E := Lib.hid (Below.refl w2.heap.size w2)
      rw [← hbR, ← hbP]
      clear hbP hbR T2
      have hw1 : IntKind.i64.wrap ((m : Int) - 1) = (m : Int) - 1 := wrap_id (by omega) (by omega)
      have c_P := P.out
      have P0 := c_P.c0
      have P1 := c_P.c1
      clear c_P
      have c_R := R.out
      have R0 := c_R.c0
      have R1 := c_R.c1
      have R2 := c_R.c2
      have R3 := c_R.c3
      have R4 := c_R.c4
      have Rz := c_R.z
      clear c_R
      by_cases hfew : N2 + 1 < m
      · have dl : decide ((N2 : Int) < (m : Int) - 1) = true := decide_eq_true (by omega)
        go_wp2_with fail
        refine (none_any' _).mono ?_
        rintro e v1 ⟨rfl, hb⟩
        clear P0 P1 R0 R1 R2 R3 R4 Rz
        have D := Lib.hid (below_on D.out hb)
        have E := Lib.hid (below_on E.out hb)
        have P := Lib.hid (P.out.below hb P.out.lt)
        have R := Lib.hid (R.out.below hb R.out.lt)
        clear hb 
        have c_P := P.out
        have P0 := c_P.c0
        have P1 := c_P.c1
        clear c_P
        have c_R := R.out
        have R0 := c_R.c0
        have R1 := c_R.c1
        have R2 := c_R.c2
        have R3 := c_R.c3
        have R4 := c_R.c4
        have Rz := c_R.z
        clear c_R
        go_wp2
        have hrn : r = Mv.R.no := by rw [HR.out, HQ.out]; unfold opV; rw [if_pos (by omega)]; rfl
        rw [hrn]
        exact ret_mv (r := Mv.R.no) (g := b_R) rfl rfl rfl rfl (R.out.put _ _ _ _ _) ⟨rfl, put5_below D.out g_R_D.out _ _ _ _ _⟩
      · have dl : decide ((N2 : Int) < (m : Int) - 1) = false := decide_eq_false (by omega)
        obtain ⟨t0, ht0⟩ : ∃ t0, t0 = endP ls (ls.length - 1) := ⟨_, rfl⟩
        have HT0 := Lib.hid ht0
        have hen := end5_any a n c' ls w2 HS2.out (by omega)
        rw [← ht0] at hen
        have hov : opV ls (i, k) xs m = (opG ls (i, k) xs m, lp (i, k) (opG ls (i, k) xs m)) := by unfold opV; rw [if_neg (by omega)]
        have HOV := Lib.hid hov
        clear ht0 hov
        go_wp2_with fail
        refine (hen).mono ?_
        rintro e v2 ⟨rfl, hb⟩
        clear P0 P1 R0 R1 R2 R3 R4 Rz
        have D := Lib.hid (below_on D.out hb)
        have E := Lib.hid (below_on E.out hb)
        have P := Lib.hid (P.out.below hb P.out.lt)
        have R := Lib.hid (R.out.below hb R.out.lt)
        clear hb hen
        go_upto_region 9 with fail
        obtain ⟨x3, hx3⟩ : ∃ x3, x3 = v2.alloc (.cells #[.int .i64 (t0.1 : Int), .int .i64 (t0.2 : Int)] 35) := ⟨_, rfl⟩
        have hA : Below v2.heap.size v2 x3 := by rw [hx3]; exact (Below.refl _ v2).alloc (Nat.le_refl _) _
        have hV := PosAt.new v2 (t0.1 : Int) (t0.2 : Int)
        rw [← hx3] at hV ⊢
        have lt_P := P.out.lt
        have lt_R := R.out.lt
        have gg_D := D.out.size
        have gg_E := E.out.size
        have D := Lib.hid (below_on D.out hA)
        have E := Lib.hid (below_on E.out hA)
        have P := Lib.hid (P.out.below hA P.out.lt)
        have R := Lib.hid (R.out.below hA R.out.lt)
        obtain ⟨b_T, hbf⟩ : ∃ b, b = v2.heap.size := ⟨_, rfl⟩
        rw [← hbf] at hV ⊢
        have n_P_T := Lib.hid (show b_P ≠ b_T by omega)
        clear lt_P
        have n_R_T := Lib.hid (show b_R ≠ b_T by omega)
        clear lt_R
        have g_T_D := Lib.hid (show w.heap.size ≤ b_T by rw [hbf]; exact gg_D)
        clear gg_D
        have g_T_E := Lib.hid (show w2.heap.size ≤ b_T by rw [hbf]; exact gg_E)
        clear gg_E
        have T := Lib.hid hV
        clear hV hA hx3 hbf
        have c_P := P.out
        have P0 := c_P.c0
        have P1 := c_P.c1
        clear c_P
        have c_R := R.out
        have R0 := c_R.c0
        have R1 := c_R.c1
        have R2 := c_R.c2
        have R3 := c_R.c3
        have R4 := c_R.c4
        have Rz := c_R.z
        clear c_R
        have c_T := T.out
        have T0 := c_T.c0
        have T1 := c_T.c1
        have Tz := fun k => frozen_of_row _ b_T k _ _ c_T
        clear c_T
        clear dl
        by_cases hmN : m ≤ N2
        · have dm : decide ((m : Int) ≤ (N2 : Int)) = true := decide_eq_true (by omega)
          have dm2 : decide (m ≤ N2) = true := decide_eq_true (by omega)
          obtain ⟨x, hx⟩ : ∃ x, x = xs.getD (m - 1) (0, 0) := ⟨_, rfl⟩
          have hxe : x = xs[m - 1]'(by omega) := by rw [hx, List.getD_eq_getElem?_getD, List.getElem?_eq_getElem (by omega)]; rfl
          obtain ⟨bs, os, hbs, hx0, hx1, hnc⟩ := HPS.out.read (m - 1) (by omega)
          rw [← hxe] at hx0 hx1
          have hxm : x.1 < ls.length := hxl x (by rw [hxe]; exact List.getElem_mem _)
          subst hbs
          obtain ⟨j, hj1, hj2⟩ : ∃ j, j + 1 ≤ m ∧ m ≤ j + 1 := ⟨m - 1, by omega, by omega⟩
          rw [show m - 1 = j by omega] at hx0 hx1
          have hwj : IntKind.i64.wrap ((m : Int) - 1) = (j : Int) := by rw [wrap_id (by omega) (by omega)]; omega
          have HXX := Lib.hid hx
          have HXC := Lib.hid (And.intro hx0 hx1)
          have s0 := cell_later E.out HXC.out.1
          have s1 := cell_later E.out HXC.out.2
          clear hx hxe hx0 hx1 hw1
          clear P0 P1 R0 R1 R2 R3 R4 Rz T0 T1 Tz
          have c_P := P.out
          have P0 := c_P.c0
          have P1 := c_P.c1
          clear c_P
          have c_R := R.out
          have R0 := c_R.c0
          have R1 := c_R.c1
          have R2 := c_R.c2
          have R3 := c_R.c3
          have R4 := c_R.c4
          have Rz := c_R.z
          clear c_R
          have c_T := T.out
          have T0 := c_T.c0
          have T1 := c_T.c1
          have Tz := fun k => frozen_of_row _ b_T k _ _ c_T
          clear c_T
          go_upto_region 11 with fail
          clear P0 P1 R0 R1 R2 R3 R4 Rz T0 T1 Tz
          obtain ⟨x7, hx7⟩ : ∃ x7, x7 = ((x3.setCell ⟨b_T, 0, none⟩ (.int .i64 (x.1 : Int))).setCell ⟨b_T, 1, none⟩ (.int .i64 (x.2 : Int))) := ⟨_, rfl⟩
          rw [← hx7]
          have D := Lib.hid (show Below w.heap.size w x7 by rw [hx7]; exact (D.out.setCell (p := ⟨b_T, 0, none⟩) g_T_D.out _).setCell (p := ⟨b_T, 1, none⟩) g_T_D.out _)
          have E := Lib.hid (show Below w2.heap.size w2 x7 by rw [hx7]; exact (E.out.setCell (p := ⟨b_T, 0, none⟩) g_T_E.out _).setCell (p := ⟨b_T, 1, none⟩) g_T_E.out _)
          have P := Lib.hid (show PosAt x7 b_P (i : Int) (k : Int) by rw [hx7]; exact (So.set2_other (n_P_T.out)).trans P.out)
          have R := Lib.hid (show MvAt x7 b_R 0 0 0 false 0 by rw [hx7]; exact (So.set2_other (n_R_T.out)).trans R.out)
          have T := Lib.hid (show PosAt x7 b_T (x.1 : Int) (x.2 : Int) by rw [hx7]; exact So.set2 T.out)
          clear hx7
          have c_P := P.out
          have P0 := c_P.c0
          have P1 := c_P.c1
          clear c_P
          have c_R := R.out
          have R0 := c_R.c0
          have R1 := c_R.c1
          have R2 := c_R.c2
          have R3 := c_R.c3
          have R4 := c_R.c4
          have Rz := c_R.z
          clear c_R
          have c_T := T.out
          have T0 := c_T.c0
          have T1 := c_T.c1
          have Tz := fun k => frozen_of_row _ b_T k _ _ c_T
          clear c_T
          clear s0 s1 hwj
          go_upto_region 12 with fail
          obtain ⟨x8, hx8⟩ : ∃ x8, x8 = x7.alloc (.cells #[.int .i64 (i : Int), .int .i64 (k : Int)] 35) := ⟨_, rfl⟩
          have hA : Below x7.heap.size x7 x8 := by rw [hx8]; exact (Below.refl _ x7).alloc (Nat.le_refl _) _
          have hV := PosAt.new x7 (i : Int) (k : Int)
          rw [← hx8] at hV ⊢
          have lt_P := P.out.lt
          have lt_R := R.out.lt
          have lt_T := T.out.lt
          have gg_D := D.out.size
          have gg_E := E.out.size
          have D := Lib.hid (below_on D.out hA)
          have E := Lib.hid (below_on E.out hA)
          have P := Lib.hid (P.out.below hA P.out.lt)
          have R := Lib.hid (R.out.below hA R.out.lt)
          have T := Lib.hid (T.out.below hA T.out.lt)
          obtain ⟨b_F, hbf⟩ : ∃ b, b = x7.heap.size := ⟨_, rfl⟩
          rw [← hbf] at hV ⊢
          have n_P_F := Lib.hid (show b_P ≠ b_F by omega)
          clear lt_P
          have n_R_F := Lib.hid (show b_R ≠ b_F by omega)
          clear lt_R
          have n_T_F := Lib.hid (show b_T ≠ b_F by omega)
          clear lt_T
          have g_F_D := Lib.hid (show w.heap.size ≤ b_F by rw [hbf]; exact gg_D)
          clear gg_D
          have g_F_E := Lib.hid (show w2.heap.size ≤ b_F by rw [hbf]; exact gg_E)
          clear gg_E
          have F := Lib.hid hV
          clear hV hA hx8 hbf
          clear P0 P1 R0 R1 R2 R3 R4 Rz T0 T1 Tz
          have c_P := P.out
          have P0 := c_P.c0
          have P1 := c_P.c1
          clear c_P
          have c_R := R.out
          have R0 := c_R.c0
          have R1 := c_R.c1
          have R2 := c_R.c2
          have R3 := c_R.c3
          have R4 := c_R.c4
          have Rz := c_R.z
          clear c_R
          have c_T := T.out
          have T0 := c_T.c0
          have T1 := c_T.c1
          have Tz := fun k => frozen_of_row _ b_T k _ _ c_T
          clear c_T
          have c_F := F.out
          have F0 := c_F.c0
          have F1 := c_F.c1
          have Fz := fun k => frozen_of_row _ b_F k _ _ c_F
          clear c_F
          by_cases h1m : 1 < m
          · have d1 : decide (1 < m) = true := decide_eq_true (by omega)
            have d1' : decide ((1 : Int) < (m : Int)) = true := decide_eq_true (by omega)
            obtain ⟨f, hf⟩ : ∃ f, f = xs.getD (m - 2) (0, 0) := ⟨_, rfl⟩
            have hfe : f = xs[m - 2]'(by omega) := by rw [hf, List.getD_eq_getElem?_getD, List.getElem?_eq_getElem (by omega)]; rfl
            obtain ⟨bs2, os2, hbs2, hf0, hf1, hnc2⟩ := HPS.out.read (m - 2) (by omega)
            rw [← hfe] at hf0 hf1
            have hfl : f.1 < ls.length := hxl f (by rw [hfe]; exact List.getElem_mem _)
            have HF := Lib.hid (show (if 1 < m then xs.getD (m - 2) (0, 0) else (i, k)) = f by rw [if_pos (by omega), hf])
            injection hbs2 with hbs2
            injection hbs2 with hbs3 hbs4
            subst hbs3 hbs4
            obtain ⟨j2, hj3, hj4⟩ : ∃ j, j + 2 ≤ m ∧ m ≤ j + 2 := ⟨m - 2, by omega, by omega⟩
            rw [show m - 2 = j2 by omega] at hf0 hf1
            have hwj2 : IntKind.i64.wrap ((m : Int) - 2) = (j2 : Int) := by rw [wrap_id (by omega) (by omega)]; omega
            have HXC2 := Lib.hid (And.intro hf0 hf1)
            have s0 := cell_later E.out HXC2.out.1
            have s1 := cell_later E.out HXC2.out.2
            clear hf hfe hf0 hf1
            clear P0 P1 R0 R1 R2 R3 R4 Rz T0 T1 Tz F0 F1 Fz
            have c_P := P.out
            have P0 := c_P.c0
            have P1 := c_P.c1
            clear c_P
            have c_R := R.out
            have R0 := c_R.c0
            have R1 := c_R.c1
            have R2 := c_R.c2
            have R3 := c_R.c3
            have R4 := c_R.c4
            have Rz := c_R.z
            clear c_R
            have c_T := T.out
            have T0 := c_T.c0
            have T1 := c_T.c1
            have Tz := fun k => frozen_of_row _ b_T k _ _ c_T
            clear c_T
            have c_F := F.out
            have F0 := c_F.c0
            have F1 := c_F.c1
            have Fz := fun k => frozen_of_row _ b_F k _ _ c_F
            clear c_F
            go_upto_region 14 with fail
            clear P0 P1 R0 R1 R2 R3 R4 Rz T0 T1 Tz F0 F1 Fz
            obtain ⟨x17, hx17⟩ : ∃ x17, x17 = ((x8.setCell ⟨b_F, 0, none⟩ (.int .i64 (f.1 : Int))).setCell ⟨b_F, 1, none⟩ (.int .i64 (f.2 : Int))) := ⟨_, rfl⟩
            rw [← hx17]
            have D := Lib.hid (show Below w.heap.size w x17 by rw [hx17]; exact (D.out.setCell (p := ⟨b_F, 0, none⟩) g_F_D.out _).setCell (p := ⟨b_F, 1, none⟩) g_F_D.out _)
            have E := Lib.hid (show Below w2.heap.size w2 x17 by rw [hx17]; exact (E.out.setCell (p := ⟨b_F, 0, none⟩) g_F_E.out _).setCell (p := ⟨b_F, 1, none⟩) g_F_E.out _)
            have P := Lib.hid (show PosAt x17 b_P (i : Int) (k : Int) by rw [hx17]; exact (So.set2_other (n_P_F.out)).trans P.out)
            have R := Lib.hid (show MvAt x17 b_R 0 0 0 false 0 by rw [hx17]; exact (So.set2_other (n_R_F.out)).trans R.out)
            have T := Lib.hid (show PosAt x17 b_T (x.1 : Int) (x.2 : Int) by rw [hx17]; exact (So.set2_other (n_T_F.out)).trans T.out)
            have F := Lib.hid (show PosAt x17 b_F (f.1 : Int) (f.2 : Int) by rw [hx17]; exact So.set2 F.out)
            clear hx17
            have c_P := P.out
            have P0 := c_P.c0
            have P1 := c_P.c1
            clear c_P
            have c_R := R.out
            have R0 := c_R.c0
            have R1 := c_R.c1
            have R2 := c_R.c2
            have R3 := c_R.c3
            have R4 := c_R.c4
            have Rz := c_R.z
            clear c_R
            have c_T := T.out
            have T0 := c_T.c0
            have T1 := c_T.c1
            have Tz := fun k => frozen_of_row _ b_T k _ _ c_T
            clear c_T
            have c_F := F.out
            have F0 := c_F.c0
            have F1 := c_F.c1
            have Fz := fun k => frozen_of_row _ b_F k _ _ c_F
            clear c_F
            clear s0 s1 hwj2
            by_cases hlt : f.1 < x.1
            · have dc : decide (f.1 < x.1) = true := decide_eq_true hlt
              obtain ⟨t, ht⟩ : ∃ t, t = endP ls f.1 := ⟨_, rfl⟩
              have hg : opG ls (i, k) xs m = t := by rw [ht]; exact opG_cut (by omega) HXX.out.symm HF.out hlt
              have HG := Lib.hid (show opV ls (i, k) xs m = (t, lp (i, k) t) by rw [HOV.out, hg])
              obtain ⟨bl, ol, hbl, hcl, hnl, _⟩ := Ss.read HS2.out (f.1) (by omega)
              rw [← lineAt_get (by omega)] at hcl
              obtain ⟨st, hst⟩ : ∃ st, st = lineAt ls f.1 := ⟨_, rfl⟩
              rw [← hst] at hcl
              have ht1 : t.1 = f.1 := by rw [ht]; rfl
              have ht2 : t.2 = st.size := by rw [ht, hst]; rfl
              subst hbl
              have hfn : f.1 < n := by omega
              have HT12 := Lib.hid (And.intro ht1 ht2)
              have HCL := Lib.hid hcl
              have c9 := cell_later E.out HCL.out
              clear hg ht hst hcl ht1 ht2
              go_upto_region 15 with fail
              have f_P0 := fun z : Gr x17 => z.cell P0
              have f_P1 := fun z : Gr x17 => z.cell P1
              have f_R0 := fun z : Gr x17 => z.cell R0
              have f_R1 := fun z : Gr x17 => z.cell R1
              have f_R2 := fun z : Gr x17 => z.cell R2
              have f_R3 := fun z : Gr x17 => z.cell R3
              have f_R4 := fun z : Gr x17 => z.cell R4
              have f_T0 := fun z : Gr x17 => z.cell T0
              have f_T1 := fun z : Gr x17 => z.cell T1
              have f_F0 := fun z : Gr x17 => z.cell F0
              have f_F1 := fun z : Gr x17 => z.cell F1
              have f_c9 := fun z : Gr x17 => z.cell c9
              clear P0 P1 R0 R1 R2 R3 R4 Rz T0 T1 Tz F0 F1 Fz
              clear c9
              refine wp_region_grow_tail 9 (by kernel_rfl) (by kernel_rfl) ?_
              simp only [List.take_succ_cons, List.take_zero, List.drop_succ_cons, List.drop_zero]
              repeat (go_big_quiet_step (fail))
              refine wpQuiet_nil ?_
              rintro y18 ⟨⟨_, hb⟩, rfl⟩
              clear f_P0 f_P1 f_R0 f_R1 f_R2 f_R3 f_R4 f_T0 f_T1 f_F0 f_F1 f_c9
              have D := Lib.hid (below_on D.out hb)
              have E := Lib.hid (below_on E.out hb)
              have P := Lib.hid (P.out.below hb P.out.lt)
              have R := Lib.hid (R.out.below hb R.out.lt)
              have T := Lib.hid (T.out.below hb T.out.lt)
              have F := Lib.hid (F.out.below hb F.out.lt)
              clear hb
              have c_P := P.out
              have P0 := c_P.c0
              have P1 := c_P.c1
              clear c_P
              have c_R := R.out
              have R0 := c_R.c0
              have R1 := c_R.c1
              have R2 := c_R.c2
              have R3 := c_R.c3
              have R4 := c_R.c4
              have Rz := c_R.z
              clear c_R
              have c_T := T.out
              have T0 := c_T.c0
              have T1 := c_T.c1
              have Tz := fun k => frozen_of_row _ b_T k _ _ c_T
              clear c_T
              have c_F := F.out
              have F0 := c_F.c0
              have F1 := c_F.c1
              have Fz := fun k => frozen_of_row _ b_F k _ _ c_F
              clear c_F
              go_upto_region 16 with fail
              clear P0 P1 R0 R1 R2 R3 R4 Rz T0 T1 Tz F0 F1 Fz
              obtain ⟨x19, hx19⟩ : ∃ x19, x19 = ((y18.setCell ⟨b_T, 0, none⟩ (.int .i64 (f.1 : Int))).setCell ⟨b_T, 1, none⟩ (.int .i64 (st.size : Int))) := ⟨_, rfl⟩
              rw [← hx19]
              have D := Lib.hid (show Below w.heap.size w x19 by rw [hx19]; exact (D.out.setCell (p := ⟨b_T, 0, none⟩) g_T_D.out _).setCell (p := ⟨b_T, 1, none⟩) g_T_D.out _)
              have E := Lib.hid (show Below w2.heap.size w2 x19 by rw [hx19]; exact (E.out.setCell (p := ⟨b_T, 0, none⟩) g_T_E.out _).setCell (p := ⟨b_T, 1, none⟩) g_T_E.out _)
              have P := Lib.hid (show PosAt x19 b_P (i : Int) (k : Int) by rw [hx19]; exact (So.set2_other (n_P_T.out)).trans P.out)
              have R := Lib.hid (show MvAt x19 b_R 0 0 0 false 0 by rw [hx19]; exact (So.set2_other (n_R_T.out)).trans R.out)
              have T := Lib.hid (show PosAt x19 b_T (f.1 : Int) (st.size : Int) by rw [hx19]; exact So.set2 T.out)
              have F := Lib.hid (show PosAt x19 b_F (f.1 : Int) (f.2 : Int) by rw [hx19]; exact (So.set2_other (n_T_F.out.symm)).trans F.out)
              clear hx19
              have c_P := P.out
              have P0 := c_P.c0
              have P1 := c_P.c1
              clear c_P
              have c_R := R.out
              have R0 := c_R.c0
              have R1 := c_R.c1
              have R2 := c_R.c2
              have R3 := c_R.c3
              have R4 := c_R.c4
              have Rz := c_R.z
              clear c_R
              have c_T := T.out
              have T0 := c_T.c0
              have T1 := c_T.c1
              have Tz := fun k => frozen_of_row _ b_T k _ _ c_T
              clear c_T
              have c_F := F.out
              have F0 := c_F.c0
              have F1 := c_F.c1
              have Fz := fun k => frozen_of_row _ b_F k _ _ c_F
              clear c_F
              have T := Lib.hid (show PosAt x19 b_T (t.1 : Int) (t.2 : Int) by rw [HT12.out.1, HT12.out.2]; exact T.out)
              clear dc hlt
              clear P0 P1 R0 R1 R2 R3 R4 Rz T0 T1 Tz F0 F1 Fz
              have c_P := P.out
              have P0 := c_P.c0
              have P1 := c_P.c1
              clear c_P
              have c_R := R.out
              have R0 := c_R.c0
              have R1 := c_R.c1
              have R2 := c_R.c2
              have R3 := c_R.c3
              have R4 := c_R.c4
              have Rz := c_R.z
              clear c_R
              have c_T := T.out
              have T0 := c_T.c0
              have T1 := c_T.c1
              have Tz := fun k => frozen_of_row _ b_T k _ _ c_T
              clear c_T
              have c_F := F.out
              have F0 := c_F.c0
              have F1 := c_F.c1
              have Fz := fun k => frozen_of_row _ b_F k _ _ c_F
              clear c_F
              have hls := So.less5_any i k t.1 t.2 x19
              rw [show So.lt (i : Int) (k : Int) (t.1 : Int) (t.2 : Int) = lp (i, k) t from rfl] at hls
              obtain ⟨lb, hlb⟩ : ∃ lb, lb = lp (i, k) t := ⟨_, rfl⟩
              rw [← hlb] at hls
              have HLB := Lib.hid hlb
              clear hlb
              go_wp2_with fail
              refine (hls).mono ?_
              rintro e v20 ⟨rfl, hb⟩
              clear P0 P1 R0 R1 R2 R3 R4 Rz T0 T1 Tz F0 F1 Fz
              have D := Lib.hid (below_on D.out hb)
              have E := Lib.hid (below_on E.out hb)
              have P := Lib.hid (P.out.below hb P.out.lt)
              have R := Lib.hid (R.out.below hb R.out.lt)
              have T := Lib.hid (T.out.below hb T.out.lt)
              have F := Lib.hid (F.out.below hb F.out.lt)
              clear hb hls
              have c_P := P.out
              have P0 := c_P.c0
              have P1 := c_P.c1
              clear c_P
              have c_R := R.out
              have R0 := c_R.c0
              have R1 := c_R.c1
              have R2 := c_R.c2
              have R3 := c_R.c3
              have R4 := c_R.c4
              have Rz := c_R.z
              clear c_R
              have c_T := T.out
              have T0 := c_T.c0
              have T1 := c_T.c1
              have Tz := fun k => frozen_of_row _ b_T k _ _ c_T
              clear c_T
              have c_F := F.out
              have F0 := c_F.c0
              have F1 := c_F.c1
              have Fz := fun k => frozen_of_row _ b_F k _ _ c_F
              clear c_F
              cases lb
              · go_wp2_with fail
                refine (none_any' _).mono ?_
                rintro e v21 ⟨rfl, hb⟩
                clear P0 P1 R0 R1 R2 R3 R4 Rz T0 T1 Tz F0 F1 Fz
                have D := Lib.hid (below_on D.out hb)
                have E := Lib.hid (below_on E.out hb)
                have P := Lib.hid (P.out.below hb P.out.lt)
                have R := Lib.hid (R.out.below hb R.out.lt)
                have T := Lib.hid (T.out.below hb T.out.lt)
                have F := Lib.hid (F.out.below hb F.out.lt)
                clear hb 
                have c_P := P.out
                have P0 := c_P.c0
                have P1 := c_P.c1
                clear c_P
                have c_R := R.out
                have R0 := c_R.c0
                have R1 := c_R.c1
                have R2 := c_R.c2
                have R3 := c_R.c3
                have R4 := c_R.c4
                have Rz := c_R.z
                clear c_R
                have c_T := T.out
                have T0 := c_T.c0
                have T1 := c_T.c1
                have Tz := fun k => frozen_of_row _ b_T k _ _ c_T
                clear c_T
                have c_F := F.out
                have F0 := c_F.c0
                have F1 := c_F.c1
                have Fz := fun k => frozen_of_row _ b_F k _ _ c_F
                clear c_F
                go_wp2
                have hrn : r = Mv.R.no := by rw [HR.out, HQ.out]; rw [HG.out, ← HLB.out]; rfl
                rw [hrn]
                exact ret_mv (r := Mv.R.no) (g := b_R) rfl rfl rfl rfl (R.out.put _ _ _ _ _) ⟨rfl, put5_below D.out g_R_D.out _ _ _ _ _⟩
              · go_wp2_with fail
                refine (to_any' t.1 t.2 _).mono ?_
                rintro e v22 ⟨rfl, hb⟩
                clear P0 P1 R0 R1 R2 R3 R4 Rz T0 T1 Tz F0 F1 Fz
                have D := Lib.hid (below_on D.out hb)
                have E := Lib.hid (below_on E.out hb)
                have P := Lib.hid (P.out.below hb P.out.lt)
                have R := Lib.hid (R.out.below hb R.out.lt)
                have T := Lib.hid (T.out.below hb T.out.lt)
                have F := Lib.hid (F.out.below hb F.out.lt)
                clear hb 
                have c_P := P.out
                have P0 := c_P.c0
                have P1 := c_P.c1
                clear c_P
                have c_R := R.out
                have R0 := c_R.c0
                have R1 := c_R.c1
                have R2 := c_R.c2
                have R3 := c_R.c3
                have R4 := c_R.c4
                have Rz := c_R.z
                clear c_R
                have c_T := T.out
                have T0 := c_T.c0
                have T1 := c_T.c1
                have Tz := fun k => frozen_of_row _ b_T k _ _ c_T
                clear c_T
                have c_F := F.out
                have F0 := c_F.c0
                have F1 := c_F.c1
                have Fz := fun k => frozen_of_row _ b_F k _ _ c_F
                clear c_F
                go_wp2
                have hrn : r = Mv.R.to t.1 t.2 := by rw [HR.out, HQ.out, HG.out, ← HLB.out]; rfl
                rw [hrn]
                exact ret_mv (r := Mv.R.to t.1 t.2) (g := b_R) rfl rfl rfl rfl (R.out.put _ _ _ _ _) ⟨rfl, put5_below D.out g_R_D.out _ _ _ _ _⟩
            · have dc : decide (f.1 < x.1) = false := decide_eq_false hlt
              have hg : opG ls (i, k) xs m = x := opG_at (by omega) HXX.out.symm HF.out hlt
              have HG := Lib.hid (show opV ls (i, k) xs m = (x, lp (i, k) x) by rw [HOV.out, hg])
              clear hg hlt
              have hls := So.less5_any i k x.1 x.2 x17
              rw [show So.lt (i : Int) (k : Int) (x.1 : Int) (x.2 : Int) = lp (i, k) x from rfl] at hls
              obtain ⟨lb, hlb⟩ : ∃ lb, lb = lp (i, k) x := ⟨_, rfl⟩
              rw [← hlb] at hls
              have HLB := Lib.hid hlb
              clear hlb
              go_wp2_with fail
              refine (hls).mono ?_
              rintro e v23 ⟨rfl, hb⟩
              clear P0 P1 R0 R1 R2 R3 R4 Rz T0 T1 Tz F0 F1 Fz
              have D := Lib.hid (below_on D.out hb)
              have E := Lib.hid (below_on E.out hb)
              have P := Lib.hid (P.out.below hb P.out.lt)
              have R := Lib.hid (R.out.below hb R.out.lt)
              have T := Lib.hid (T.out.below hb T.out.lt)
              have F := Lib.hid (F.out.below hb F.out.lt)
              clear hb hls
              have c_P := P.out
              have P0 := c_P.c0
              have P1 := c_P.c1
              clear c_P
              have c_R := R.out
              have R0 := c_R.c0
              have R1 := c_R.c1
              have R2 := c_R.c2
              have R3 := c_R.c3
              have R4 := c_R.c4
              have Rz := c_R.z
              clear c_R
              have c_T := T.out
              have T0 := c_T.c0
              have T1 := c_T.c1
              have Tz := fun k => frozen_of_row _ b_T k _ _ c_T
              clear c_T
              have c_F := F.out
              have F0 := c_F.c0
              have F1 := c_F.c1
              have Fz := fun k => frozen_of_row _ b_F k _ _ c_F
              clear c_F
              cases lb
              · go_wp2_with fail
                refine (none_any' _).mono ?_
                rintro e v24 ⟨rfl, hb⟩
                clear P0 P1 R0 R1 R2 R3 R4 Rz T0 T1 Tz F0 F1 Fz
                have D := Lib.hid (below_on D.out hb)
                have E := Lib.hid (below_on E.out hb)
                have P := Lib.hid (P.out.below hb P.out.lt)
                have R := Lib.hid (R.out.below hb R.out.lt)
                have T := Lib.hid (T.out.below hb T.out.lt)
                have F := Lib.hid (F.out.below hb F.out.lt)
                clear hb 
                have c_P := P.out
                have P0 := c_P.c0
                have P1 := c_P.c1
                clear c_P
                have c_R := R.out
                have R0 := c_R.c0
                have R1 := c_R.c1
                have R2 := c_R.c2
                have R3 := c_R.c3
                have R4 := c_R.c4
                have Rz := c_R.z
                clear c_R
                have c_T := T.out
                have T0 := c_T.c0
                have T1 := c_T.c1
                have Tz := fun k => frozen_of_row _ b_T k _ _ c_T
                clear c_T
                have c_F := F.out
                have F0 := c_F.c0
                have F1 := c_F.c1
                have Fz := fun k => frozen_of_row _ b_F k _ _ c_F
                clear c_F
                go_wp2
                have hrn : r = Mv.R.no := by rw [HR.out, HQ.out]; rw [HG.out, ← HLB.out]; rfl
                rw [hrn]
                exact ret_mv (r := Mv.R.no) (g := b_R) rfl rfl rfl rfl (R.out.put _ _ _ _ _) ⟨rfl, put5_below D.out g_R_D.out _ _ _ _ _⟩
              · go_wp2_with fail
                refine (to_any' x.1 x.2 _).mono ?_
                rintro e v25 ⟨rfl, hb⟩
                clear P0 P1 R0 R1 R2 R3 R4 Rz T0 T1 Tz F0 F1 Fz
                have D := Lib.hid (below_on D.out hb)
                have E := Lib.hid (below_on E.out hb)
                have P := Lib.hid (P.out.below hb P.out.lt)
                have R := Lib.hid (R.out.below hb R.out.lt)
                have T := Lib.hid (T.out.below hb T.out.lt)
                have F := Lib.hid (F.out.below hb F.out.lt)
                clear hb 
                have c_P := P.out
                have P0 := c_P.c0
                have P1 := c_P.c1
                clear c_P
                have c_R := R.out
                have R0 := c_R.c0
                have R1 := c_R.c1
                have R2 := c_R.c2
                have R3 := c_R.c3
                have R4 := c_R.c4
                have Rz := c_R.z
                clear c_R
                have c_T := T.out
                have T0 := c_T.c0
                have T1 := c_T.c1
                have Tz := fun k => frozen_of_row _ b_T k _ _ c_T
                clear c_T
                have c_F := F.out
                have F0 := c_F.c0
                have F1 := c_F.c1
                have Fz := fun k => frozen_of_row _ b_F k _ _ c_F
                clear c_F
                go_wp2
                have hrn : r = Mv.R.to x.1 x.2 := by rw [HR.out, HQ.out, HG.out, ← HLB.out]; rfl
                rw [hrn]
                exact ret_mv (r := Mv.R.to x.1 x.2) (g := b_R) rfl rfl rfl rfl (R.out.put _ _ _ _ _) ⟨rfl, put5_below D.out g_R_D.out _ _ _ _ _⟩
          · have d1 : decide (1 < m) = false := decide_eq_false (by omega)
            have d1' : decide ((1 : Int) < (m : Int)) = false := decide_eq_false (by omega)
            obtain ⟨f, hf⟩ : ∃ f : P2, f = (i, k) := ⟨_, rfl⟩
            have hfi : (i : Int) = f.1 := by rw [hf]
            have hfk : (k : Int) = f.2 := by rw [hf]
            have F := Lib.hid (show PosAt x8 b_F (f.1 : Int) (f.2 : Int) by rw [← hfi, ← hfk]; exact F.out)
            have hfl : f.1 < ls.length := by rw [hf]; exact hi
            have HF := Lib.hid (show (if 1 < m then xs.getD (m - 2) (0, 0) else (i, k)) = f by rw [hf]; exact if_neg (by omega))
            clear hf hfi hfk
            clear P0 P1 R0 R1 R2 R3 R4 Rz T0 T1 Tz F0 F1 Fz
            have c_P := P.out
            have P0 := c_P.c0
            have P1 := c_P.c1
            clear c_P
            have c_R := R.out
            have R0 := c_R.c0
            have R1 := c_R.c1
            have R2 := c_R.c2
            have R3 := c_R.c3
            have R4 := c_R.c4
            have Rz := c_R.z
            clear c_R
            have c_T := T.out
            have T0 := c_T.c0
            have T1 := c_T.c1
            have Tz := fun k => frozen_of_row _ b_T k _ _ c_T
            clear c_T
            have c_F := F.out
            have F0 := c_F.c0
            have F1 := c_F.c1
            have Fz := fun k => frozen_of_row _ b_F k _ _ c_F
            clear c_F
            by_cases hlt : f.1 < x.1
            · have dc : decide (f.1 < x.1) = true := decide_eq_true hlt
              obtain ⟨t, ht⟩ : ∃ t, t = endP ls f.1 := ⟨_, rfl⟩
              have hg : opG ls (i, k) xs m = t := by rw [ht]; exact opG_cut (by omega) HXX.out.symm HF.out hlt
              have HG := Lib.hid (show opV ls (i, k) xs m = (t, lp (i, k) t) by rw [HOV.out, hg])
              obtain ⟨bl, ol, hbl, hcl, hnl, _⟩ := Ss.read HS2.out (f.1) (by omega)
              rw [← lineAt_get (by omega)] at hcl
              obtain ⟨st, hst⟩ : ∃ st, st = lineAt ls f.1 := ⟨_, rfl⟩
              rw [← hst] at hcl
              have ht1 : t.1 = f.1 := by rw [ht]; rfl
              have ht2 : t.2 = st.size := by rw [ht, hst]; rfl
              subst hbl
              have hfn : f.1 < n := by omega
              have HT12 := Lib.hid (And.intro ht1 ht2)
              have HCL := Lib.hid hcl
              have c9 := cell_later E.out HCL.out
              clear hg ht hst hcl ht1 ht2
              go_upto_region 15 with fail
              have f_P0 := fun z : Gr x8 => z.cell P0
              have f_P1 := fun z : Gr x8 => z.cell P1
              have f_R0 := fun z : Gr x8 => z.cell R0
              have f_R1 := fun z : Gr x8 => z.cell R1
              have f_R2 := fun z : Gr x8 => z.cell R2
              have f_R3 := fun z : Gr x8 => z.cell R3
              have f_R4 := fun z : Gr x8 => z.cell R4
              have f_T0 := fun z : Gr x8 => z.cell T0
              have f_T1 := fun z : Gr x8 => z.cell T1
              have f_F0 := fun z : Gr x8 => z.cell F0
              have f_F1 := fun z : Gr x8 => z.cell F1
              have f_c9 := fun z : Gr x8 => z.cell c9
              clear P0 P1 R0 R1 R2 R3 R4 Rz T0 T1 Tz F0 F1 Fz
              clear c9
              refine wp_region_grow_tail 9 (by kernel_rfl) (by kernel_rfl) ?_
              simp only [List.take_succ_cons, List.take_zero, List.drop_succ_cons, List.drop_zero]
              repeat (go_big_quiet_step (fail))
              refine wpQuiet_nil ?_
              rintro y9 ⟨⟨_, hb⟩, rfl⟩
              clear f_P0 f_P1 f_R0 f_R1 f_R2 f_R3 f_R4 f_T0 f_T1 f_F0 f_F1 f_c9
              have D := Lib.hid (below_on D.out hb)
              have E := Lib.hid (below_on E.out hb)
              have P := Lib.hid (P.out.below hb P.out.lt)
              have R := Lib.hid (R.out.below hb R.out.lt)
              have T := Lib.hid (T.out.below hb T.out.lt)
              have F := Lib.hid (F.out.below hb F.out.lt)
              clear hb
              have c_P := P.out
              have P0 := c_P.c0
              have P1 := c_P.c1
              clear c_P
              have c_R := R.out
              have R0 := c_R.c0
              have R1 := c_R.c1
              have R2 := c_R.c2
              have R3 := c_R.c3
              have R4 := c_R.c4
              have Rz := c_R.z
              clear c_R
              have c_T := T.out
              have T0 := c_T.c0
              have T1 := c_T.c1
              have Tz := fun k => frozen_of_row _ b_T k _ _ c_T
              clear c_T
              have c_F := F.out
              have F0 := c_F.c0
              have F1 := c_F.c1
              have Fz := fun k => frozen_of_row _ b_F k _ _ c_F
              clear c_F
              go_upto_region 16 with fail
              clear P0 P1 R0 R1 R2 R3 R4 Rz T0 T1 Tz F0 F1 Fz
              obtain ⟨x10, hx10⟩ : ∃ x10, x10 = ((y9.setCell ⟨b_T, 0, none⟩ (.int .i64 (f.1 : Int))).setCell ⟨b_T, 1, none⟩ (.int .i64 (st.size : Int))) := ⟨_, rfl⟩
              rw [← hx10]
              have D := Lib.hid (show Below w.heap.size w x10 by rw [hx10]; exact (D.out.setCell (p := ⟨b_T, 0, none⟩) g_T_D.out _).setCell (p := ⟨b_T, 1, none⟩) g_T_D.out _)
              have E := Lib.hid (show Below w2.heap.size w2 x10 by rw [hx10]; exact (E.out.setCell (p := ⟨b_T, 0, none⟩) g_T_E.out _).setCell (p := ⟨b_T, 1, none⟩) g_T_E.out _)
              have P := Lib.hid (show PosAt x10 b_P (i : Int) (k : Int) by rw [hx10]; exact (So.set2_other (n_P_T.out)).trans P.out)
              have R := Lib.hid (show MvAt x10 b_R 0 0 0 false 0 by rw [hx10]; exact (So.set2_other (n_R_T.out)).trans R.out)
              have T := Lib.hid (show PosAt x10 b_T (f.1 : Int) (st.size : Int) by rw [hx10]; exact So.set2 T.out)
              have F := Lib.hid (show PosAt x10 b_F (f.1 : Int) (f.2 : Int) by rw [hx10]; exact (So.set2_other (n_T_F.out.symm)).trans F.out)
              clear hx10
              have c_P := P.out
              have P0 := c_P.c0
              have P1 := c_P.c1
              clear c_P
              have c_R := R.out
              have R0 := c_R.c0
              have R1 := c_R.c1
              have R2 := c_R.c2
              have R3 := c_R.c3
              have R4 := c_R.c4
              have Rz := c_R.z
              clear c_R
              have c_T := T.out
              have T0 := c_T.c0
              have T1 := c_T.c1
              have Tz := fun k => frozen_of_row _ b_T k _ _ c_T
              clear c_T
              have c_F := F.out
              have F0 := c_F.c0
              have F1 := c_F.c1
              have Fz := fun k => frozen_of_row _ b_F k _ _ c_F
              clear c_F
              have T := Lib.hid (show PosAt x10 b_T (t.1 : Int) (t.2 : Int) by rw [HT12.out.1, HT12.out.2]; exact T.out)
              clear dc hlt
              clear P0 P1 R0 R1 R2 R3 R4 Rz T0 T1 Tz F0 F1 Fz
              have c_P := P.out
              have P0 := c_P.c0
              have P1 := c_P.c1
              clear c_P
              have c_R := R.out
              have R0 := c_R.c0
              have R1 := c_R.c1
              have R2 := c_R.c2
              have R3 := c_R.c3
              have R4 := c_R.c4
              have Rz := c_R.z
              clear c_R
              have c_T := T.out
              have T0 := c_T.c0
              have T1 := c_T.c1
              have Tz := fun k => frozen_of_row _ b_T k _ _ c_T
              clear c_T
              have c_F := F.out
              have F0 := c_F.c0
              have F1 := c_F.c1
              have Fz := fun k => frozen_of_row _ b_F k _ _ c_F
              clear c_F
              have hls := So.less5_any i k t.1 t.2 x10
              rw [show So.lt (i : Int) (k : Int) (t.1 : Int) (t.2 : Int) = lp (i, k) t from rfl] at hls
              obtain ⟨lb, hlb⟩ : ∃ lb, lb = lp (i, k) t := ⟨_, rfl⟩
              rw [← hlb] at hls
              have HLB := Lib.hid hlb
              clear hlb
              go_wp2_with fail
              refine (hls).mono ?_
              rintro e v11 ⟨rfl, hb⟩
              clear P0 P1 R0 R1 R2 R3 R4 Rz T0 T1 Tz F0 F1 Fz
              have D := Lib.hid (below_on D.out hb)
              have E := Lib.hid (below_on E.out hb)
              have P := Lib.hid (P.out.below hb P.out.lt)
              have R := Lib.hid (R.out.below hb R.out.lt)
              have T := Lib.hid (T.out.below hb T.out.lt)
              have F := Lib.hid (F.out.below hb F.out.lt)
              clear hb hls
              have c_P := P.out
              have P0 := c_P.c0
              have P1 := c_P.c1
              clear c_P
              have c_R := R.out
              have R0 := c_R.c0
              have R1 := c_R.c1
              have R2 := c_R.c2
              have R3 := c_R.c3
              have R4 := c_R.c4
              have Rz := c_R.z
              clear c_R
              have c_T := T.out
              have T0 := c_T.c0
              have T1 := c_T.c1
              have Tz := fun k => frozen_of_row _ b_T k _ _ c_T
              clear c_T
              have c_F := F.out
              have F0 := c_F.c0
              have F1 := c_F.c1
              have Fz := fun k => frozen_of_row _ b_F k _ _ c_F
              clear c_F
              cases lb
              · go_wp2_with fail
                refine (none_any' _).mono ?_
                rintro e v12 ⟨rfl, hb⟩
                clear P0 P1 R0 R1 R2 R3 R4 Rz T0 T1 Tz F0 F1 Fz
                have D := Lib.hid (below_on D.out hb)
                have E := Lib.hid (below_on E.out hb)
                have P := Lib.hid (P.out.below hb P.out.lt)
                have R := Lib.hid (R.out.below hb R.out.lt)
                have T := Lib.hid (T.out.below hb T.out.lt)
                have F := Lib.hid (F.out.below hb F.out.lt)
                clear hb 
                have c_P := P.out
                have P0 := c_P.c0
                have P1 := c_P.c1
                clear c_P
                have c_R := R.out
                have R0 := c_R.c0
                have R1 := c_R.c1
                have R2 := c_R.c2
                have R3 := c_R.c3
                have R4 := c_R.c4
                have Rz := c_R.z
                clear c_R
                have c_T := T.out
                have T0 := c_T.c0
                have T1 := c_T.c1
                have Tz := fun k => frozen_of_row _ b_T k _ _ c_T
                clear c_T
                have c_F := F.out
                have F0 := c_F.c0
                have F1 := c_F.c1
                have Fz := fun k => frozen_of_row _ b_F k _ _ c_F
                clear c_F
                go_wp2
                have hrn : r = Mv.R.no := by rw [HR.out, HQ.out]; rw [HG.out, ← HLB.out]; rfl
                rw [hrn]
                exact ret_mv (r := Mv.R.no) (g := b_R) rfl rfl rfl rfl (R.out.put _ _ _ _ _) ⟨rfl, put5_below D.out g_R_D.out _ _ _ _ _⟩
              · go_wp2_with fail
                refine (to_any' t.1 t.2 _).mono ?_
                rintro e v13 ⟨rfl, hb⟩
                clear P0 P1 R0 R1 R2 R3 R4 Rz T0 T1 Tz F0 F1 Fz
                have D := Lib.hid (below_on D.out hb)
                have E := Lib.hid (below_on E.out hb)
                have P := Lib.hid (P.out.below hb P.out.lt)
                have R := Lib.hid (R.out.below hb R.out.lt)
                have T := Lib.hid (T.out.below hb T.out.lt)
                have F := Lib.hid (F.out.below hb F.out.lt)
                clear hb 
                have c_P := P.out
                have P0 := c_P.c0
                have P1 := c_P.c1
                clear c_P
                have c_R := R.out
                have R0 := c_R.c0
                have R1 := c_R.c1
                have R2 := c_R.c2
                have R3 := c_R.c3
                have R4 := c_R.c4
                have Rz := c_R.z
                clear c_R
                have c_T := T.out
                have T0 := c_T.c0
                have T1 := c_T.c1
                have Tz := fun k => frozen_of_row _ b_T k _ _ c_T
                clear c_T
                have c_F := F.out
                have F0 := c_F.c0
                have F1 := c_F.c1
                have Fz := fun k => frozen_of_row _ b_F k _ _ c_F
                clear c_F
                go_wp2
                have hrn : r = Mv.R.to t.1 t.2 := by rw [HR.out, HQ.out, HG.out, ← HLB.out]; rfl
                rw [hrn]
                exact ret_mv (r := Mv.R.to t.1 t.2) (g := b_R) rfl rfl rfl rfl (R.out.put _ _ _ _ _) ⟨rfl, put5_below D.out g_R_D.out _ _ _ _ _⟩
            · have dc : decide (f.1 < x.1) = false := decide_eq_false hlt
              have hg : opG ls (i, k) xs m = x := opG_at (by omega) HXX.out.symm HF.out hlt
              have HG := Lib.hid (show opV ls (i, k) xs m = (x, lp (i, k) x) by rw [HOV.out, hg])
              clear hg hlt
              have hls := So.less5_any i k x.1 x.2 x8
              rw [show So.lt (i : Int) (k : Int) (x.1 : Int) (x.2 : Int) = lp (i, k) x from rfl] at hls
              obtain ⟨lb, hlb⟩ : ∃ lb, lb = lp (i, k) x := ⟨_, rfl⟩
              rw [← hlb] at hls
              have HLB := Lib.hid hlb
              clear hlb
              go_wp2_with fail
              refine (hls).mono ?_
              rintro e v14 ⟨rfl, hb⟩
              clear P0 P1 R0 R1 R2 R3 R4 Rz T0 T1 Tz F0 F1 Fz
              have D := Lib.hid (below_on D.out hb)
              have E := Lib.hid (below_on E.out hb)
              have P := Lib.hid (P.out.below hb P.out.lt)
              have R := Lib.hid (R.out.below hb R.out.lt)
              have T := Lib.hid (T.out.below hb T.out.lt)
              have F := Lib.hid (F.out.below hb F.out.lt)
              clear hb hls
              have c_P := P.out
              have P0 := c_P.c0
              have P1 := c_P.c1
              clear c_P
              have c_R := R.out
              have R0 := c_R.c0
              have R1 := c_R.c1
              have R2 := c_R.c2
              have R3 := c_R.c3
              have R4 := c_R.c4
              have Rz := c_R.z
              clear c_R
              have c_T := T.out
              have T0 := c_T.c0
              have T1 := c_T.c1
              have Tz := fun k => frozen_of_row _ b_T k _ _ c_T
              clear c_T
              have c_F := F.out
              have F0 := c_F.c0
              have F1 := c_F.c1
              have Fz := fun k => frozen_of_row _ b_F k _ _ c_F
              clear c_F
              cases lb
              · go_wp2_with fail
                refine (none_any' _).mono ?_
                rintro e v15 ⟨rfl, hb⟩
                clear P0 P1 R0 R1 R2 R3 R4 Rz T0 T1 Tz F0 F1 Fz
                have D := Lib.hid (below_on D.out hb)
                have E := Lib.hid (below_on E.out hb)
                have P := Lib.hid (P.out.below hb P.out.lt)
                have R := Lib.hid (R.out.below hb R.out.lt)
                have T := Lib.hid (T.out.below hb T.out.lt)
                have F := Lib.hid (F.out.below hb F.out.lt)
                clear hb 
                have c_P := P.out
                have P0 := c_P.c0
                have P1 := c_P.c1
                clear c_P
                have c_R := R.out
                have R0 := c_R.c0
                have R1 := c_R.c1
                have R2 := c_R.c2
                have R3 := c_R.c3
                have R4 := c_R.c4
                have Rz := c_R.z
                clear c_R
                have c_T := T.out
                have T0 := c_T.c0
                have T1 := c_T.c1
                have Tz := fun k => frozen_of_row _ b_T k _ _ c_T
                clear c_T
                have c_F := F.out
                have F0 := c_F.c0
                have F1 := c_F.c1
                have Fz := fun k => frozen_of_row _ b_F k _ _ c_F
                clear c_F
                go_wp2
                have hrn : r = Mv.R.no := by rw [HR.out, HQ.out]; rw [HG.out, ← HLB.out]; rfl
                rw [hrn]
                exact ret_mv (r := Mv.R.no) (g := b_R) rfl rfl rfl rfl (R.out.put _ _ _ _ _) ⟨rfl, put5_below D.out g_R_D.out _ _ _ _ _⟩
              · go_wp2_with fail
                refine (to_any' x.1 x.2 _).mono ?_
                rintro e v16 ⟨rfl, hb⟩
                clear P0 P1 R0 R1 R2 R3 R4 Rz T0 T1 Tz F0 F1 Fz
                have D := Lib.hid (below_on D.out hb)
                have E := Lib.hid (below_on E.out hb)
                have P := Lib.hid (P.out.below hb P.out.lt)
                have R := Lib.hid (R.out.below hb R.out.lt)
                have T := Lib.hid (T.out.below hb T.out.lt)
                have F := Lib.hid (F.out.below hb F.out.lt)
                clear hb 
                have c_P := P.out
                have P0 := c_P.c0
                have P1 := c_P.c1
                clear c_P
                have c_R := R.out
                have R0 := c_R.c0
                have R1 := c_R.c1
                have R2 := c_R.c2
                have R3 := c_R.c3
                have R4 := c_R.c4
                have Rz := c_R.z
                clear c_R
                have c_T := T.out
                have T0 := c_T.c0
                have T1 := c_T.c1
                have Tz := fun k => frozen_of_row _ b_T k _ _ c_T
                clear c_T
                have c_F := F.out
                have F0 := c_F.c0
                have F1 := c_F.c1
                have Fz := fun k => frozen_of_row _ b_F k _ _ c_F
                clear c_F
                go_wp2
                have hrn : r = Mv.R.to x.1 x.2 := by rw [HR.out, HQ.out, HG.out, ← HLB.out]; rfl
                rw [hrn]
                exact ret_mv (r := Mv.R.to x.1 x.2) (g := b_R) rfl rfl rfl rfl (R.out.put _ _ _ _ _) ⟨rfl, put5_below D.out g_R_D.out _ _ _ _ _⟩
        · have dm : decide ((m : Int) ≤ (N2 : Int)) = false := decide_eq_false (by omega)
          have dm2 : decide (m ≤ N2) = false := decide_eq_false (by omega)
          have hg : opG ls (i, k) xs m = t0 := by rw [HT0.out]; exact opG_end (by omega)
          have HG := Lib.hid (show opV ls (i, k) xs m = (t0, lp (i, k) t0) by rw [HOV.out, hg])
          clear hg
          have hls := So.less5_any i k t0.1 t0.2 x3
          rw [show So.lt (i : Int) (k : Int) (t0.1 : Int) (t0.2 : Int) = lp (i, k) t0 from rfl] at hls
          obtain ⟨lb, hlb⟩ : ∃ lb, lb = lp (i, k) t0 := ⟨_, rfl⟩
          rw [← hlb] at hls
          have HLB := Lib.hid hlb
          clear hlb
          go_wp2_with fail
          refine (hls).mono ?_
          rintro e v4 ⟨rfl, hb⟩
          clear P0 P1 R0 R1 R2 R3 R4 Rz T0 T1 Tz
          have D := Lib.hid (below_on D.out hb)
          have E := Lib.hid (below_on E.out hb)
          have P := Lib.hid (P.out.below hb P.out.lt)
          have R := Lib.hid (R.out.below hb R.out.lt)
          have T := Lib.hid (T.out.below hb T.out.lt)
          clear hb hls
          have c_P := P.out
          have P0 := c_P.c0
          have P1 := c_P.c1
          clear c_P
          have c_R := R.out
          have R0 := c_R.c0
          have R1 := c_R.c1
          have R2 := c_R.c2
          have R3 := c_R.c3
          have R4 := c_R.c4
          have Rz := c_R.z
          clear c_R
          have c_T := T.out
          have T0 := c_T.c0
          have T1 := c_T.c1
          have Tz := fun k => frozen_of_row _ b_T k _ _ c_T
          clear c_T
          cases lb
          · go_wp2_with fail
            refine (none_any' _).mono ?_
            rintro e v5 ⟨rfl, hb⟩
            clear P0 P1 R0 R1 R2 R3 R4 Rz T0 T1 Tz
            have D := Lib.hid (below_on D.out hb)
            have E := Lib.hid (below_on E.out hb)
            have P := Lib.hid (P.out.below hb P.out.lt)
            have R := Lib.hid (R.out.below hb R.out.lt)
            have T := Lib.hid (T.out.below hb T.out.lt)
            clear hb 
            have c_P := P.out
            have P0 := c_P.c0
            have P1 := c_P.c1
            clear c_P
            have c_R := R.out
            have R0 := c_R.c0
            have R1 := c_R.c1
            have R2 := c_R.c2
            have R3 := c_R.c3
            have R4 := c_R.c4
            have Rz := c_R.z
            clear c_R
            have c_T := T.out
            have T0 := c_T.c0
            have T1 := c_T.c1
            have Tz := fun k => frozen_of_row _ b_T k _ _ c_T
            clear c_T
            go_wp2
            have hrn : r = Mv.R.no := by rw [HR.out, HQ.out]; rw [HG.out, ← HLB.out]; rfl
            rw [hrn]
            exact ret_mv (r := Mv.R.no) (g := b_R) rfl rfl rfl rfl (R.out.put _ _ _ _ _) ⟨rfl, put5_below D.out g_R_D.out _ _ _ _ _⟩
          · go_wp2_with fail
            refine (to_any' t0.1 t0.2 _).mono ?_
            rintro e v6 ⟨rfl, hb⟩
            clear P0 P1 R0 R1 R2 R3 R4 Rz T0 T1 Tz
            have D := Lib.hid (below_on D.out hb)
            have E := Lib.hid (below_on E.out hb)
            have P := Lib.hid (P.out.below hb P.out.lt)
            have R := Lib.hid (R.out.below hb R.out.lt)
            have T := Lib.hid (T.out.below hb T.out.lt)
            clear hb 
            have c_P := P.out
            have P0 := c_P.c0
            have P1 := c_P.c1
            clear c_P
            have c_R := R.out
            have R0 := c_R.c0
            have R1 := c_R.c1
            have R2 := c_R.c2
            have R3 := c_R.c3
            have R4 := c_R.c4
            have Rz := c_R.z
            clear c_R
            have c_T := T.out
            have T0 := c_T.c0
            have T1 := c_T.c1
            have Tz := fun k => frozen_of_row _ b_T k _ _ c_T
            clear c_T
            go_wp2
            have hrn : r = Mv.R.to t0.1 t0.2 := by rw [HR.out, HQ.out, HG.out, ← HLB.out]; rfl
            rw [hrn]
            exact ret_mv (r := Mv.R.to t0.1 t0.2) (g := b_R) rfl rfl rfl rfl (R.out.put _ _ _ _ _) ⟨rfl, put5_below D.out g_R_D.out _ _ _ _ _⟩
  · have hr : nextR ls l c nn big op = R.no := ifm_no hpk
    rw [hr]
    obtain ⟨X, hX⟩ : ∃ X, X = ((w.alloc (.cells #[.int .i64 l, .int .i64 c] 35)).alloc (.cells #[.int .i64 0, .int .i64 0, .int .i64 0, .bool false, .int .i64 0] 40)) := ⟨_, rfl⟩
    have hT : Two w X l c := by rw [hX]; exact Two.new w l c
    have HX := Lib.hid hX
    have h1 := may_any a n c' ls l c nn X (SrcV.below h hT.below)
    rw [decide_eq_false hpk] at h1
    have p0 := hT.pos.c0
    have p1 := hT.pos.c1
    have m0 := hT.mv.c0
    have m1 := hT.mv.c1
    have m2 := hT.mv.c2
    have m3 := hT.mv.c3
    have m4 := hT.mv.c4
    have z := hT.mv.z
    clear hr hX hpk h
    go_enter Try.func19, Try.ntmps19
    go_wp2_with fail
    rw [← HX.out]
    refine h1.mono ?_
    rintro e w1 ⟨rfl, hb_w1⟩
    have T1 := hT.on hb_w1
    clear p0 p1 m0 m1 m2 m3 m4 z h1
    have p0 := T1.pos.c0
    have p1 := T1.pos.c1
    have m0 := T1.mv.c0
    have m1 := T1.mv.c1
    have m2 := T1.mv.c2
    have m3 := T1.mv.c3
    have m4 := T1.mv.c4
    have z := T1.mv.z
    go_wp2_with fail
    refine (none_any' _).mono ?_
    rintro e w2 ⟨rfl, hb_w2⟩
    have T2 := T1.on hb_w2
    clear p0 p1 m0 m1 m2 m3 m4 z
    have p0 := T2.pos.c0
    have p1 := T2.pos.c1
    have m0 := T2.mv.c0
    have m1 := T2.mv.c1
    have m2 := T2.mv.c2
    have m3 := T2.mv.c3
    have m4 := T2.mv.c4
    have z := T2.mv.z
    go_wp2
    obtain ⟨hg, hb⟩ := T2.ret 0 0 0 0 false
    exact ret_mv (r := R.no) (g := w.heap.size + 1) rfl rfl rfl rfl hg ⟨rfl, hb⟩

end Go.Proofs.Ytdgckgfbdplnpaa.Wd
