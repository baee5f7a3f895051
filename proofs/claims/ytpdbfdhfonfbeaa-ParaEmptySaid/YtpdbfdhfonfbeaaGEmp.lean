/-
  The law ParaEmpty, walked.
-/
import Derived.Test.YtpdbfdhfonfbeaaGk
import Derived.Test.YtpdbfdhfonfbeaaGd
set_option linter.unusedVariables false
set_option linter.unusedSimpArgs false
set_option maxRecDepth 100000
namespace Go.Proofs.Ytpdbfdhfonfbeaa.GEmp
open Go Go.RowKit Go.Proofs.Ytpdbfdhfonfbeaa.Vk Go.Proofs.Ytpdbfdhfonfbeaa.Str Go.Proofs.Ytpdbfdhfonfbeaa.Ln Go.Proofs.Ytpdbfdhfonfbeaa.Cl Go.Proofs.Ytpdbfdhfonfbeaa.Mv Go.Proofs.Ytpdbfdhfonfbeaa.Wd Go.Proofs.Ytpdbfdhfonfbeaa.Pa
attribute [local go_sem] Oper.semAt_some
set_option maxHeartbeats 4000000

theorem bw_opt {b b' o o' : Nat} (h : (some ⟨b, o, none⟩ : Option Addr) = some ⟨b', o', none⟩) : b' = b ∧ o' = o := by
  injection h with h
  injection h with h1 h2
  exact ⟨h1.symm, h2.symm⟩
theorem at_line {w : World} {b o n c : Nat} {ls : List ByteArray} (h : Ss w (some ⟨b, o, none⟩) n c ls) {j : Nat} (hj : j < ls.length) : w.cell? ⟨b, o + j, none⟩ = some (.string (lineAt ls j)) := by
  obtain ⟨b', o', he, hc, _⟩ := h.read j hj
  obtain ⟨rfl, rfl⟩ := bw_opt he
  rw [lineAt_get hj]
  exact hc
theorem neq_pos (a b c d : Int) (W : World) : (binOp .neq 24 (.agg #[.int .i64 a, .int .i64 b]) (.agg #[.int .i64 c, .int .i64 d])).run Try.prog W = .ok (.bool (!(decide (a = c) && decide (b = d)))) W := by
  have hS : Try.prog.underlying 24 = some (.struct (Try.prog.fieldsOf 24)) := by kernel_rfl
  have hp : Try.prog.stoodInHeld 24 = false := by kernel_rfl
  rw [run_neq_struct, show (10000 : Nat) = 9999 + 1 from rfl, run_equalIn_agg W 9999 24 _ _ hS hp]
  simp only [Program.fieldsOf, Try.underlying24]
  go_simp
  by_cases h1 : a = c <;> by_cases h2 : b = d <;> simp [h1, h2]
theorem plc_line {ls : List ByteArray} {i : Nat} (h : i < ls.length) : Plc ls (i : Int) 0 := ⟨by omega, by omega, by omega, by omega⟩
theorem pn_one {ls : List ByteArray} {i : Nat} (h : i < ls.length) {t : P2} (ht : dn ls false (i + 1) = t) : pnR ls i 0 1 false = if lp (i, 0) t = true then ⟨t.1, t.2, 0, true, -1, true⟩ else R.no := by
  have e : pnR ls i 0 1 false = jmp (nxV ls false 1 (i, 0)) := ifm_yes (k := 0) (m := 1) (plc_line h) (by omega)
  rw [e]
  by_cases hl : lp (i, 0) t = true
  · rw [if_pos hl, show nxV ls false 1 (i, 0) = (t, true) from itr_yes (k := 0) (ok := lp) ht hl]; rfl
  · rw [if_neg hl, show nxV ls false 1 (i, 0) = ((0, 0), false) from itr_no (k := 0) (ok := lp) ht (by simpa using hl)]; rfl
theorem pb_one {ls : List ByteArray} {i : Nat} (h : i < ls.length) {t : P2} (ht : up ls i = t) : pbR ls i 0 1 = if lp t (i, 0) = true then ⟨t.1, t.2, 0, true, -1, true⟩ else R.no := by
  have e : pbR ls i 0 1 = jmp (bkV ls 1 (i, 0)) := ifm_yes (k := 0) (m := 1) (plc_line h) (by omega)
  rw [e]
  by_cases hl : lp t (i, 0) = true
  · rw [if_pos hl, show bkV ls 1 (i, 0) = (t, true) from itr_yes (k := 0) (ok := fun p t => lp t p) ht hl]; rfl
  · rw [if_neg hl, show bkV ls 1 (i, 0) = ((0, 0), false) from itr_no (k := 0) (ok := fun p t => lp t p) ht (by simpa using hl)]; rfl
theorem dn_end_is {ls : List ByteArray} {i : Nat} (h : i < ls.length) {t : P2} (ht : dn ls false (i + 1) = t) : t.1 < ls.length ∧ (0 < (lineAt ls t.1).size → t.1 = ls.length - 1 ∧ t.2 = (lineAt ls (ls.length - 1)).size - 1) := by
  subst ht
  rcases dn_is (ls := ls) (past := false) (i := i + 1) (by omega) with h1 | ⟨k, h1, h2, h3, h4⟩
  · rw [h1]; exact ⟨by show ls.length - 1 < ls.length; omega, fun _ => ⟨rfl, rfl⟩⟩
  · rw [h3]; exact ⟨h2, fun hh => by have : 0 < (lineAt ls k).size := hh; omega⟩
theorem up_end_is {ls : List ByteArray} {i : Nat} {t : P2} (ht : up ls i = t) : t.1 ≤ i ∧ (0 < (lineAt ls t.1).size → t = (0, 0)) ∧ (lp t (i, 0) = decide (0 < i)) := by
  subst ht
  rcases up_is (ls := ls) i with h1 | ⟨k, h1, h2, h3⟩
  · rw [h1]
    refine ⟨Nat.zero_le _, fun _ => rfl, ?_⟩
    by_cases h0 : 0 < i
    · rw [decide_eq_true h0]; exact lp_iff.2 (.inl h0)
    · rw [decide_eq_false h0]; exact lp_false.2 (by simp; omega)
  · rw [h2]
    refine ⟨by show k ≤ i; omega, fun hh => by have : 0 < (lineAt ls k).size := hh; omega, ?_⟩
    rw [decide_eq_true (show 0 < i by omega)]
    exact lp_iff.2 (.inl h1)

theorem walk (a : Option Addr) (n c' : Nat) (ls : List ByteArray) (q : Int) (w : World) (h : Ss w a n c' ls) (hs : ∀ s ∈ ls, s.size ≤ 140737488355328) (hq0 : (Lit.int .u8 q).wf = true) :
    Calls Try.prog 6 #[.slice a n c', .int .u8 q] w fun e w' => e = .returned (.bool true) ∧ Below w.heap.size w w' := by
  have hk := known_any w
  have q2 : 0 ≤ q ∧ q ≤ 255 := by simpa [Lit.wf, IntKind.min, IntKind.max, IntKind.signed, IntKind.bits] using hq0
  go_enter Try.func6, Try.ntmps6
  go_wp2_with fail
  refine hk.mono ?_
  rintro e w1 ⟨rfl, hb1⟩
  have htx := text_any a n c' ls w1 (SrcV.below h hb1) hs
  have HS1 := Lib.hid (SrcV.below h hb1)
  have HB1 := Lib.hid hb1
  clear hk hb1 h
  go_wp2_with fail
  refine htx.mono ?_
  rintro e w' ⟨qq, rfl, rfl, hq⟩
  clear htx
  cases qq
  · clear hq
    go_wp2
    go_ret
    exact ⟨rfl, HB1.out⟩
  obtain ⟨hn0, hn40, hz, _⟩ := hq rfl
  clear hq
  have hlen := Ss.length HS1.out
  obtain ⟨bs, os, ha, _⟩ := Ss.read HS1.out 0 (by omega)
  subst ha
  obtain ⟨i, hi, hin⟩ : ∃ i : Nat, q.tmod (n : Int) = (i : Int) ∧ i < n := by
    have h1 := Int.tmod_lt_of_pos q (b := (n : Int)) (by omega)
    have h2 := Int.tmod_nonneg (n : Int) q2.1
    exact ⟨(q.tmod n).toNat, by omega, by omega⟩
  have hwq : IntKind.i64.wrap q = q := by rw [IntKind.wrap_i64]; omega
  have hwi : IntKind.i64.wrap (i : Int) = (i : Int) := by rw [IntKind.wrap_i64]; omega
  obtain ⟨kk, hkk⟩ : ∃ kk, kk = n - 1 := ⟨_, rfl⟩
  have hwk : IntKind.i64.wrap ((n : Int) - 1) = (kk : Int) := by rw [IntKind.wrap_i64]; omega
  have hkn : kk < n := by omega
  have hkl : kk = ls.length - 1 := by omega
  obtain ⟨t, ht⟩ : ∃ t, dn ls false (i + 1) = t := ⟨_, rfl⟩
  obtain ⟨htl, htd⟩ := dn_end_is (by omega) ht
  have c1 := fun W (hW : Below w1.heap.size w1 W) => next_any _ n c' ls i 0 1 false W (SrcV.below HS1.out hW) hs (by omega) (by omega)
  rw [pn_one (by omega) ht] at c1
  obtain ⟨t2, ht2⟩ : ∃ t2, up ls i = t2 := ⟨_, rfl⟩
  obtain ⟨hul, hud, hue⟩ := up_end_is ht2
  have c2 := fun W (hW : Below w1.heap.size w1 W) => back_any _ n c' ls i 0 1 W (SrcV.below HS1.out hW) hs (by omega) (by omega)
  rw [pb_one (by omega) ht2, hue] at c2
  have htn : t.1 < n := by omega
  have hun : t2.1 < n := by omega
  have hsz : ∀ j, j < n → (lineAt ls j).size ≤ 1240 := fun j hj => by
    have h1 : lineAt ls j ∈ ls := by rw [lineAt_get (by omega)]; exact List.getElem_mem _
    have h2 := tz_mem _ _ h1
    omega
  have hc1 := at_line HS1.out (j := t.1) (by omega)
  have hc2 := at_line HS1.out (j := kk) (by omega)
  have hc3 := at_line HS1.out (j := t2.1) (by omega)
  rw [← hkl] at htd
  have hszk := hsz kk hkn
  have HC := Lib.hid (And.intro hc1 (And.intro hc2 hc3))
  have D := Lib.hid (Below.refl w1.heap.size w1)
  clear hkk hkl ht ht2 htl hsz hul hc1 hc2 hc3
  go_upto_region 6 with fail
  obtain ⟨x2, hx2⟩ : ∃ x2, x2 = w1.alloc (.cells #[.int .i64 (i : Int), .int .i64 0] 24) := ⟨_, rfl⟩
  have hA : Below w1.heap.size w1 x2 := by rw [hx2]; exact (Below.refl _ w1).alloc (Nat.le_refl _) _
  have hV := PosAt.new w1 (i : Int) 0
  rw [← hx2] at hV ⊢
  have gg_D := D.out.size
  have D := Lib.hid (below_on D.out hA)
  obtain ⟨b_P, hbf⟩ : ∃ b, b = w1.heap.size := ⟨_, rfl⟩
  rw [← hbf] at hV ⊢
  have g_P_D := Lib.hid (show w1.heap.size ≤ b_P by rw [hbf]; exact gg_D)
  clear gg_D
  have P := Lib.hid hV
  clear hV hA hx2 hbf
  have c_P := P.out
  have P0 := c_P.c0
  have P1 := c_P.c1
  clear c_P
  go_upto_region 7 with fail
  by_cases h1 : lp (i, 0) t = true
  · by_cases h4 : (lineAt ls t.1).size = 0
    · rw [if_pos h1] at c1
      clear P0 P1
      have c_P := P.out
      have P0 := c_P.c0
      have P1 := c_P.c1
      clear c_P
      go_wp2_with fail
      refine (c1 _ D.out).mono ?_
      rintro e v1 ⟨rfl, hb⟩
      clear P0 P1
      have D := Lib.hid (below_on D.out hb)
      have P := Lib.hid (P.out.below hb P.out.lt)
      clear hb c1
      go_upto_region 8 with fail
      obtain ⟨x3, hx3⟩ : ∃ x3, x3 = v1.alloc (.cells #[.int .i64 (t.1 : Int), .int .i64 (t.2 : Int), .int .i64 0, .bool true, .int .i64 (-1)] 32) := ⟨_, rfl⟩
      have hA : Below v1.heap.size v1 x3 := by rw [hx3]; exact (Below.refl _ v1).alloc (Nat.le_refl _) _
      have hV := MvAt.new v1 (t.1 : Int) (t.2 : Int) 0 (-1) true
      rw [← hx3] at hV ⊢
      have lt_P := P.out.lt
      have gg_D := D.out.size
      have D := Lib.hid (below_on D.out hA)
      have P := Lib.hid (P.out.below hA P.out.lt)
      obtain ⟨b_V, hbf⟩ : ∃ b, b = v1.heap.size := ⟨_, rfl⟩
      rw [← hbf] at hV ⊢
      have n_P_V := Lib.hid (show b_P ≠ b_V by omega)
      clear lt_P
      have g_V_D := Lib.hid (show w1.heap.size ≤ b_V by rw [hbf]; exact gg_D)
      clear gg_D
      have V := Lib.hid hV
      clear hV hA hx3 hbf
      have c_P := P.out
      have P0 := c_P.c0
      have P1 := c_P.c1
      clear c_P
      have c_V := V.out
      have V0 := c_V.c0
      have V1 := c_V.c1
      have V2 := c_V.c2
      have V3 := c_V.c3
      have V4 := c_V.c4
      clear c_V
      have hl1 := cell_later D.out HC.out.1
      have hl2 := cell_later D.out HC.out.2.1
      have e1 := empty_of_zero h4
      clear h4
      have f_P0 := fun z : Gr x3 => z.cell P0
      have f_P1 := fun z : Gr x3 => z.cell P1
      have f_V0 := fun z : Gr x3 => z.cell V0
      have f_V1 := fun z : Gr x3 => z.cell V1
      have f_V2 := fun z : Gr x3 => z.cell V2
      have f_V3 := fun z : Gr x3 => z.cell V3
      have f_V4 := fun z : Gr x3 => z.cell V4
      have f_hl1 := fun z : Gr x3 => z.cell hl1
      have f_hl2 := fun z : Gr x3 => z.cell hl2
      clear P0 P1 V0 V1 V2 V3 V4
      clear hl1 hl2 htd
      refine wp_region_grow (by kernel_rfl) (by kernel_rfl) ?_
      repeat (go_big_quiet_step (fail))
      refine wpQuiet_nil ?_
      rintro w7 ⟨⟨_, hb_w7⟩, rfl⟩
      have D := Lib.hid (below_on D.out hb_w7)
      have P := Lib.hid (P.out.below hb_w7 P.out.lt)
      have V := Lib.hid (V.out.below hb_w7 V.out.lt)
      clear hb_w7 f_P0 f_P1 f_V0 f_V1 f_V2 f_V3 f_V4 f_hl1 f_hl2 e1
      have c_P := P.out
      have P0 := c_P.c0
      have P1 := c_P.c1
      clear c_P
      have c_V := V.out
      have V0 := c_V.c0
      have V1 := c_V.c1
      have V2 := c_V.c2
      have V3 := c_V.c3
      have V4 := c_V.c4
      clear c_V
      go_upto_region 10 with fail
      by_cases h2 : 0 < i
      · by_cases h3 : (lineAt ls t2.1).size = 0
        · rw [if_pos (decide_eq_true h2)] at c2
          clear P0 P1 V0 V1 V2 V3 V4
          have c_P := P.out
          have P0 := c_P.c0
          have P1 := c_P.c1
          clear c_P
          have c_V := V.out
          have V0 := c_V.c0
          have V1 := c_V.c1
          have V2 := c_V.c2
          have V3 := c_V.c3
          have V4 := c_V.c4
          clear c_V
          go_wp2_with fail
          refine (c2 _ D.out).mono ?_
          rintro e v3 ⟨rfl, hb⟩
          clear P0 P1 V0 V1 V2 V3 V4
          have D := Lib.hid (below_on D.out hb)
          have P := Lib.hid (P.out.below hb P.out.lt)
          have V := Lib.hid (V.out.below hb V.out.lt)
          clear hb c2
          go_upto_region 11 with fail
          obtain ⟨x4, hx4⟩ : ∃ x4, x4 = v3.alloc (.cells #[.int .i64 (t2.1 : Int), .int .i64 (t2.2 : Int), .int .i64 0, .bool true, .int .i64 (-1)] 32) := ⟨_, rfl⟩
          have hA : Below v3.heap.size v3 x4 := by rw [hx4]; exact (Below.refl _ v3).alloc (Nat.le_refl _) _
          have hV := MvAt.new v3 (t2.1 : Int) (t2.2 : Int) 0 (-1) true
          rw [← hx4] at hV ⊢
          have lt_P := P.out.lt
          have lt_V := V.out.lt
          have gg_D := D.out.size
          have D := Lib.hid (below_on D.out hA)
          have P := Lib.hid (P.out.below hA P.out.lt)
          have V := Lib.hid (V.out.below hA V.out.lt)
          obtain ⟨b_U, hbf⟩ : ∃ b, b = v3.heap.size := ⟨_, rfl⟩
          rw [← hbf] at hV ⊢
          have n_P_U := Lib.hid (show b_P ≠ b_U by omega)
          clear lt_P
          have n_V_U := Lib.hid (show b_V ≠ b_U by omega)
          clear lt_V
          have g_U_D := Lib.hid (show w1.heap.size ≤ b_U by rw [hbf]; exact gg_D)
          clear gg_D
          have U := Lib.hid hV
          clear hV hA hx4 hbf
          have c_P := P.out
          have P0 := c_P.c0
          have P1 := c_P.c1
          clear c_P
          have c_V := V.out
          have V0 := c_V.c0
          have V1 := c_V.c1
          have V2 := c_V.c2
          have V3 := c_V.c3
          have V4 := c_V.c4
          clear c_V
          have c_U := U.out
          have U0 := c_U.c0
          have U1 := c_U.c1
          have U2 := c_U.c2
          have U3 := c_U.c3
          have U4 := c_U.c4
          clear c_U
          have hl3 := cell_later D.out HC.out.2.2
          have e3 := empty_of_zero h3
          clear h3
          clear hud
          go_upto_region 13 with fail
          clear hl3 e3
          have hne := fun W => neq_pos i 0 0 0 W
          rw [decide_eq_false (show ¬ ((i : Int) = 0) by omega)] at hne
          have hl2 : So.lt t2.1 t2.2 i 0 = true := by rw [show So.lt t2.1 t2.2 i 0 = lp t2 (i, 0) from rfl, hue]; exact decide_eq_true h2
          simp only [decide_true, Bool.and_self, Bool.not_true, Bool.false_and, Bool.not_false] at hne
          have hl1 : So.lt i 0 t.1 t.2 = true := h1
          clear h1 h2 hue
          have hls := So.less5_any i 0 t.1 t.2 x4
          rw [hl1] at hls
          clear hl1
          clear P0 P1 V0 V1 V2 V3 V4 U0 U1 U2 U3 U4
          have c_P := P.out
          have P0 := c_P.c0
          have P1 := c_P.c1
          clear c_P
          have c_V := V.out
          have V0 := c_V.c0
          have V1 := c_V.c1
          have V2 := c_V.c2
          have V3 := c_V.c3
          have V4 := c_V.c4
          clear c_V
          have c_U := U.out
          have U0 := c_U.c0
          have U1 := c_U.c1
          have U2 := c_U.c2
          have U3 := c_U.c3
          have U4 := c_U.c4
          clear c_U
          go_wp2_with fail
          refine (hls).mono ?_
          rintro e v5 ⟨rfl, hb⟩
          clear P0 P1 V0 V1 V2 V3 V4 U0 U1 U2 U3 U4
          have D := Lib.hid (below_on D.out hb)
          have P := Lib.hid (P.out.below hb P.out.lt)
          have V := Lib.hid (V.out.below hb V.out.lt)
          have U := Lib.hid (U.out.below hb U.out.lt)
          clear hb hls
          have hls := So.less5_any t2.1 t2.2 i 0 v5
          rw [hl2] at hls
          clear hl2
          have c_P := P.out
          have P0 := c_P.c0
          have P1 := c_P.c1
          clear c_P
          have c_V := V.out
          have V0 := c_V.c0
          have V1 := c_V.c1
          have V2 := c_V.c2
          have V3 := c_V.c3
          have V4 := c_V.c4
          clear c_V
          have c_U := U.out
          have U0 := c_U.c0
          have U1 := c_U.c1
          have U2 := c_U.c2
          have U3 := c_U.c3
          have U4 := c_U.c4
          clear c_U
          go_wp2_with fail
          refine (hls).mono ?_
          rintro e v6 ⟨rfl, hb⟩
          clear P0 P1 V0 V1 V2 V3 V4 U0 U1 U2 U3 U4
          have D := Lib.hid (below_on D.out hb)
          have P := Lib.hid (P.out.below hb P.out.lt)
          have V := Lib.hid (V.out.below hb V.out.lt)
          have U := Lib.hid (U.out.below hb U.out.lt)
          clear hb hls
          have c_P := P.out
          have P0 := c_P.c0
          have P1 := c_P.c1
          clear c_P
          have c_V := V.out
          have V0 := c_V.c0
          have V1 := c_V.c1
          have V2 := c_V.c2
          have V3 := c_V.c3
          have V4 := c_V.c4
          clear c_V
          have c_U := U.out
          have U0 := c_U.c0
          have U1 := c_U.c1
          have U2 := c_U.c2
          have U3 := c_U.c3
          have U4 := c_U.c4
          clear c_U
          go_wp2
          go_ret
          exact ⟨rfl, below_on HB1.out D.out⟩
        · rw [if_pos (decide_eq_true h2)] at c2
          clear P0 P1 V0 V1 V2 V3 V4
          have c_P := P.out
          have P0 := c_P.c0
          have P1 := c_P.c1
          clear c_P
          have c_V := V.out
          have V0 := c_V.c0
          have V1 := c_V.c1
          have V2 := c_V.c2
          have V3 := c_V.c3
          have V4 := c_V.c4
          clear c_V
          go_wp2_with fail
          refine (c2 _ D.out).mono ?_
          rintro e v3 ⟨rfl, hb⟩
          clear P0 P1 V0 V1 V2 V3 V4
          have D := Lib.hid (below_on D.out hb)
          have P := Lib.hid (P.out.below hb P.out.lt)
          have V := Lib.hid (V.out.below hb V.out.lt)
          clear hb c2
          go_upto_region 11 with fail
          obtain ⟨x4, hx4⟩ : ∃ x4, x4 = v3.alloc (.cells #[.int .i64 (t2.1 : Int), .int .i64 (t2.2 : Int), .int .i64 0, .bool true, .int .i64 (-1)] 32) := ⟨_, rfl⟩
          have hA : Below v3.heap.size v3 x4 := by rw [hx4]; exact (Below.refl _ v3).alloc (Nat.le_refl _) _
          have hV := MvAt.new v3 (t2.1 : Int) (t2.2 : Int) 0 (-1) true
          rw [← hx4] at hV ⊢
          have lt_P := P.out.lt
          have lt_V := V.out.lt
          have gg_D := D.out.size
          have D := Lib.hid (below_on D.out hA)
          have P := Lib.hid (P.out.below hA P.out.lt)
          have V := Lib.hid (V.out.below hA V.out.lt)
          obtain ⟨b_U, hbf⟩ : ∃ b, b = v3.heap.size := ⟨_, rfl⟩
          rw [← hbf] at hV ⊢
          have n_P_U := Lib.hid (show b_P ≠ b_U by omega)
          clear lt_P
          have n_V_U := Lib.hid (show b_V ≠ b_U by omega)
          clear lt_V
          have g_U_D := Lib.hid (show w1.heap.size ≤ b_U by rw [hbf]; exact gg_D)
          clear gg_D
          have U := Lib.hid hV
          clear hV hA hx4 hbf
          have c_P := P.out
          have P0 := c_P.c0
          have P1 := c_P.c1
          clear c_P
          have c_V := V.out
          have V0 := c_V.c0
          have V1 := c_V.c1
          have V2 := c_V.c2
          have V3 := c_V.c3
          have V4 := c_V.c4
          clear c_V
          have c_U := U.out
          have U0 := c_U.c0
          have U1 := c_U.c1
          have U2 := c_U.c2
          have U3 := c_U.c3
          have U4 := c_U.c4
          clear c_U
          have hl3 := cell_later D.out HC.out.2.2
          have e3 := empty_of_pos (x := lineAt ls t2.1) (by omega)
          have hz3 := hud (by omega)
          have hn3 : ∀ W, (binOp .neq 24 (.agg #[.int .i64 t2.1, .int .i64 t2.2]) (.agg #[.int .i64 0, .int .i64 0])).run Try.prog W = .ok (.bool false) W := fun W => by rw [neq_pos, hz3]; rfl
          clear h3 hz3
          clear hud
          go_upto_region 13 with fail
          clear hl3 e3 hn3
          have hne := fun W => neq_pos i 0 0 0 W
          rw [decide_eq_false (show ¬ ((i : Int) = 0) by omega)] at hne
          have hl2 : So.lt t2.1 t2.2 i 0 = true := by rw [show So.lt t2.1 t2.2 i 0 = lp t2 (i, 0) from rfl, hue]; exact decide_eq_true h2
          simp only [decide_true, Bool.and_self, Bool.not_true, Bool.false_and, Bool.not_false] at hne
          have hl1 : So.lt i 0 t.1 t.2 = true := h1
          clear h1 h2 hue
          have hls := So.less5_any i 0 t.1 t.2 x4
          rw [hl1] at hls
          clear hl1
          clear P0 P1 V0 V1 V2 V3 V4 U0 U1 U2 U3 U4
          have c_P := P.out
          have P0 := c_P.c0
          have P1 := c_P.c1
          clear c_P
          have c_V := V.out
          have V0 := c_V.c0
          have V1 := c_V.c1
          have V2 := c_V.c2
          have V3 := c_V.c3
          have V4 := c_V.c4
          clear c_V
          have c_U := U.out
          have U0 := c_U.c0
          have U1 := c_U.c1
          have U2 := c_U.c2
          have U3 := c_U.c3
          have U4 := c_U.c4
          clear c_U
          go_wp2_with fail
          refine (hls).mono ?_
          rintro e v5 ⟨rfl, hb⟩
          clear P0 P1 V0 V1 V2 V3 V4 U0 U1 U2 U3 U4
          have D := Lib.hid (below_on D.out hb)
          have P := Lib.hid (P.out.below hb P.out.lt)
          have V := Lib.hid (V.out.below hb V.out.lt)
          have U := Lib.hid (U.out.below hb U.out.lt)
          clear hb hls
          have hls := So.less5_any t2.1 t2.2 i 0 v5
          rw [hl2] at hls
          clear hl2
          have c_P := P.out
          have P0 := c_P.c0
          have P1 := c_P.c1
          clear c_P
          have c_V := V.out
          have V0 := c_V.c0
          have V1 := c_V.c1
          have V2 := c_V.c2
          have V3 := c_V.c3
          have V4 := c_V.c4
          clear c_V
          have c_U := U.out
          have U0 := c_U.c0
          have U1 := c_U.c1
          have U2 := c_U.c2
          have U3 := c_U.c3
          have U4 := c_U.c4
          clear c_U
          go_wp2_with fail
          refine (hls).mono ?_
          rintro e v6 ⟨rfl, hb⟩
          clear P0 P1 V0 V1 V2 V3 V4 U0 U1 U2 U3 U4
          have D := Lib.hid (below_on D.out hb)
          have P := Lib.hid (P.out.below hb P.out.lt)
          have V := Lib.hid (V.out.below hb V.out.lt)
          have U := Lib.hid (U.out.below hb U.out.lt)
          clear hb hls
          have c_P := P.out
          have P0 := c_P.c0
          have P1 := c_P.c1
          clear c_P
          have c_V := V.out
          have V0 := c_V.c0
          have V1 := c_V.c1
          have V2 := c_V.c2
          have V3 := c_V.c3
          have V4 := c_V.c4
          clear c_V
          have c_U := U.out
          have U0 := c_U.c0
          have U1 := c_U.c1
          have U2 := c_U.c2
          have U3 := c_U.c3
          have U4 := c_U.c4
          clear c_U
          go_wp2
          go_ret
          exact ⟨rfl, below_on HB1.out D.out⟩
      · rw [if_neg (by rw [decide_eq_false h2]; simp)] at c2
        unfold R.no at c2
        clear P0 P1 V0 V1 V2 V3 V4
        have c_P := P.out
        have P0 := c_P.c0
        have P1 := c_P.c1
        clear c_P
        have c_V := V.out
        have V0 := c_V.c0
        have V1 := c_V.c1
        have V2 := c_V.c2
        have V3 := c_V.c3
        have V4 := c_V.c4
        clear c_V
        go_wp2_with fail
        refine (c2 _ D.out).mono ?_
        rintro e v3 ⟨rfl, hb⟩
        clear P0 P1 V0 V1 V2 V3 V4
        have D := Lib.hid (below_on D.out hb)
        have P := Lib.hid (P.out.below hb P.out.lt)
        have V := Lib.hid (V.out.below hb V.out.lt)
        clear hb c2
        go_upto_region 11 with fail
        obtain ⟨x4, hx4⟩ : ∃ x4, x4 = v3.alloc (.cells #[.int .i64 0, .int .i64 0, .int .i64 0, .bool false, .int .i64 0] 32) := ⟨_, rfl⟩
        have hA : Below v3.heap.size v3 x4 := by rw [hx4]; exact (Below.refl _ v3).alloc (Nat.le_refl _) _
        have hV := MvAt.new v3 0 0 0 0 false
        rw [← hx4] at hV ⊢
        have lt_P := P.out.lt
        have lt_V := V.out.lt
        have gg_D := D.out.size
        have D := Lib.hid (below_on D.out hA)
        have P := Lib.hid (P.out.below hA P.out.lt)
        have V := Lib.hid (V.out.below hA V.out.lt)
        obtain ⟨b_U, hbf⟩ : ∃ b, b = v3.heap.size := ⟨_, rfl⟩
        rw [← hbf] at hV ⊢
        have n_P_U := Lib.hid (show b_P ≠ b_U by omega)
        clear lt_P
        have n_V_U := Lib.hid (show b_V ≠ b_U by omega)
        clear lt_V
        have g_U_D := Lib.hid (show w1.heap.size ≤ b_U by rw [hbf]; exact gg_D)
        clear gg_D
        have U := Lib.hid hV
        clear hV hA hx4 hbf
        have c_P := P.out
        have P0 := c_P.c0
        have P1 := c_P.c1
        clear c_P
        have c_V := V.out
        have V0 := c_V.c0
        have V1 := c_V.c1
        have V2 := c_V.c2
        have V3 := c_V.c3
        have V4 := c_V.c4
        clear c_V
        have c_U := U.out
        have U0 := c_U.c0
        have U1 := c_U.c1
        have U2 := c_U.c2
        have U3 := c_U.c3
        have U4 := c_U.c4
        clear c_U
        clear hud
        go_upto_region 13 with fail
        have hne := fun W => neq_pos i 0 0 0 W
        rw [decide_eq_true (show (i : Int) = 0 by omega)] at hne
        simp only [decide_true, Bool.and_self, Bool.not_true, Bool.false_and, Bool.not_false] at hne
        have hl1 : So.lt i 0 t.1 t.2 = true := h1
        clear h1 h2 hue
        have hls := So.less5_any i 0 t.1 t.2 x4
        rw [hl1] at hls
        clear hl1
        clear P0 P1 V0 V1 V2 V3 V4 U0 U1 U2 U3 U4
        have c_P := P.out
        have P0 := c_P.c0
        have P1 := c_P.c1
        clear c_P
        have c_V := V.out
        have V0 := c_V.c0
        have V1 := c_V.c1
        have V2 := c_V.c2
        have V3 := c_V.c3
        have V4 := c_V.c4
        clear c_V
        have c_U := U.out
        have U0 := c_U.c0
        have U1 := c_U.c1
        have U2 := c_U.c2
        have U3 := c_U.c3
        have U4 := c_U.c4
        clear c_U
        go_wp2_with fail
        refine (hls).mono ?_
        rintro e v5 ⟨rfl, hb⟩
        clear P0 P1 V0 V1 V2 V3 V4 U0 U1 U2 U3 U4
        have D := Lib.hid (below_on D.out hb)
        have P := Lib.hid (P.out.below hb P.out.lt)
        have V := Lib.hid (V.out.below hb V.out.lt)
        have U := Lib.hid (U.out.below hb U.out.lt)
        clear hb hls
        have c_P := P.out
        have P0 := c_P.c0
        have P1 := c_P.c1
        clear c_P
        have c_V := V.out
        have V0 := c_V.c0
        have V1 := c_V.c1
        have V2 := c_V.c2
        have V3 := c_V.c3
        have V4 := c_V.c4
        clear c_V
        have c_U := U.out
        have U0 := c_U.c0
        have U1 := c_U.c1
        have U2 := c_U.c2
        have U3 := c_U.c3
        have U4 := c_U.c4
        clear c_U
        go_wp2
        go_ret
        exact ⟨rfl, below_on HB1.out D.out⟩
    · rw [if_pos h1] at c1
      clear P0 P1
      have c_P := P.out
      have P0 := c_P.c0
      have P1 := c_P.c1
      clear c_P
      go_wp2_with fail
      refine (c1 _ D.out).mono ?_
      rintro e v1 ⟨rfl, hb⟩
      clear P0 P1
      have D := Lib.hid (below_on D.out hb)
      have P := Lib.hid (P.out.below hb P.out.lt)
      clear hb c1
      go_upto_region 8 with fail
      obtain ⟨x3, hx3⟩ : ∃ x3, x3 = v1.alloc (.cells #[.int .i64 (t.1 : Int), .int .i64 (t.2 : Int), .int .i64 0, .bool true, .int .i64 (-1)] 32) := ⟨_, rfl⟩
      have hA : Below v1.heap.size v1 x3 := by rw [hx3]; exact (Below.refl _ v1).alloc (Nat.le_refl _) _
      have hV := MvAt.new v1 (t.1 : Int) (t.2 : Int) 0 (-1) true
      rw [← hx3] at hV ⊢
      have lt_P := P.out.lt
      have gg_D := D.out.size
      have D := Lib.hid (below_on D.out hA)
      have P := Lib.hid (P.out.below hA P.out.lt)
      obtain ⟨b_V, hbf⟩ : ∃ b, b = v1.heap.size := ⟨_, rfl⟩
      rw [← hbf] at hV ⊢
      have n_P_V := Lib.hid (show b_P ≠ b_V by omega)
      clear lt_P
      have g_V_D := Lib.hid (show w1.heap.size ≤ b_V by rw [hbf]; exact gg_D)
      clear gg_D
      have V := Lib.hid hV
      clear hV hA hx3 hbf
      have c_P := P.out
      have P0 := c_P.c0
      have P1 := c_P.c1
      clear c_P
      have c_V := V.out
      have V0 := c_V.c0
      have V1 := c_V.c1
      have V2 := c_V.c2
      have V3 := c_V.c3
      have V4 := c_V.c4
      clear c_V
      have hl1 := cell_later D.out HC.out.1
      have hl2 := cell_later D.out HC.out.2.1
      have e1 := empty_of_pos (x := lineAt ls t.1) (by omega)
      obtain ⟨ha, hb⟩ := htd (by omega)
      have hz4 : 0 < (lineAt ls kk).size := by rw [← ha]; omega
      have d1 : ((t.1 : Int) != (kk : Int)) = false := by rw [bne_eq_false_iff_eq]; omega
      have d2 : (t.1 != kk) = false := by rw [bne_eq_false_iff_eq]; omega
      have d3 : ((t.1 : Int) == (kk : Int)) = true := by rw [beq_iff_eq]; omega
      have d4 : decide ((t.1 : Int) = (kk : Int)) = true := decide_eq_true (by omega)
      have hwz : IntKind.i64.wrap (((lineAt ls kk).size : Int) - 1) = (t.2 : Int) := by rw [IntKind.wrap_i64]; omega
      clear ha hb hz4 h4
      have f_P0 := fun z : Gr x3 => z.cell P0
      have f_P1 := fun z : Gr x3 => z.cell P1
      have f_V0 := fun z : Gr x3 => z.cell V0
      have f_V1 := fun z : Gr x3 => z.cell V1
      have f_V2 := fun z : Gr x3 => z.cell V2
      have f_V3 := fun z : Gr x3 => z.cell V3
      have f_V4 := fun z : Gr x3 => z.cell V4
      have f_hl1 := fun z : Gr x3 => z.cell hl1
      have f_hl2 := fun z : Gr x3 => z.cell hl2
      clear P0 P1 V0 V1 V2 V3 V4
      clear hl1 hl2 htd
      refine wp_region_grow (by kernel_rfl) (by kernel_rfl) ?_
      repeat (go_big_quiet_step (fail))
      refine wpQuiet_nil ?_
      rintro w7 ⟨⟨_, hb_w7⟩, rfl⟩
      have D := Lib.hid (below_on D.out hb_w7)
      have P := Lib.hid (P.out.below hb_w7 P.out.lt)
      have V := Lib.hid (V.out.below hb_w7 V.out.lt)
      clear hb_w7 f_P0 f_P1 f_V0 f_V1 f_V2 f_V3 f_V4 f_hl1 f_hl2 e1 d1 d2 d3 d4 hwz
      have c_P := P.out
      have P0 := c_P.c0
      have P1 := c_P.c1
      clear c_P
      have c_V := V.out
      have V0 := c_V.c0
      have V1 := c_V.c1
      have V2 := c_V.c2
      have V3 := c_V.c3
      have V4 := c_V.c4
      clear c_V
      go_upto_region 10 with fail
      by_cases h2 : 0 < i
      · by_cases h3 : (lineAt ls t2.1).size = 0
        · rw [if_pos (decide_eq_true h2)] at c2
          clear P0 P1 V0 V1 V2 V3 V4
          have c_P := P.out
          have P0 := c_P.c0
          have P1 := c_P.c1
          clear c_P
          have c_V := V.out
          have V0 := c_V.c0
          have V1 := c_V.c1
          have V2 := c_V.c2
          have V3 := c_V.c3
          have V4 := c_V.c4
          clear c_V
          go_wp2_with fail
          refine (c2 _ D.out).mono ?_
          rintro e v3 ⟨rfl, hb⟩
          clear P0 P1 V0 V1 V2 V3 V4
          have D := Lib.hid (below_on D.out hb)
          have P := Lib.hid (P.out.below hb P.out.lt)
          have V := Lib.hid (V.out.below hb V.out.lt)
          clear hb c2
          go_upto_region 11 with fail
          obtain ⟨x4, hx4⟩ : ∃ x4, x4 = v3.alloc (.cells #[.int .i64 (t2.1 : Int), .int .i64 (t2.2 : Int), .int .i64 0, .bool true, .int .i64 (-1)] 32) := ⟨_, rfl⟩
          have hA : Below v3.heap.size v3 x4 := by rw [hx4]; exact (Below.refl _ v3).alloc (Nat.le_refl _) _
          have hV := MvAt.new v3 (t2.1 : Int) (t2.2 : Int) 0 (-1) true
          rw [← hx4] at hV ⊢
          have lt_P := P.out.lt
          have lt_V := V.out.lt
          have gg_D := D.out.size
          have D := Lib.hid (below_on D.out hA)
          have P := Lib.hid (P.out.below hA P.out.lt)
          have V := Lib.hid (V.out.below hA V.out.lt)
          obtain ⟨b_U, hbf⟩ : ∃ b, b = v3.heap.size := ⟨_, rfl⟩
          rw [← hbf] at hV ⊢
          have n_P_U := Lib.hid (show b_P ≠ b_U by omega)
          clear lt_P
          have n_V_U := Lib.hid (show b_V ≠ b_U by omega)
          clear lt_V
          have g_U_D := Lib.hid (show w1.heap.size ≤ b_U by rw [hbf]; exact gg_D)
          clear gg_D
          have U := Lib.hid hV
          clear hV hA hx4 hbf
          have c_P := P.out
          have P0 := c_P.c0
          have P1 := c_P.c1
          clear c_P
          have c_V := V.out
          have V0 := c_V.c0
          have V1 := c_V.c1
          have V2 := c_V.c2
          have V3 := c_V.c3
          have V4 := c_V.c4
          clear c_V
          have c_U := U.out
          have U0 := c_U.c0
          have U1 := c_U.c1
          have U2 := c_U.c2
          have U3 := c_U.c3
          have U4 := c_U.c4
          clear c_U
          have hl3 := cell_later D.out HC.out.2.2
          have e3 := empty_of_zero h3
          clear h3
          clear hud
          go_upto_region 13 with fail
          clear hl3 e3
          have hne := fun W => neq_pos i 0 0 0 W
          rw [decide_eq_false (show ¬ ((i : Int) = 0) by omega)] at hne
          have hl2 : So.lt t2.1 t2.2 i 0 = true := by rw [show So.lt t2.1 t2.2 i 0 = lp t2 (i, 0) from rfl, hue]; exact decide_eq_true h2
          simp only [decide_true, Bool.and_self, Bool.not_true, Bool.false_and, Bool.not_false] at hne
          have hl1 : So.lt i 0 t.1 t.2 = true := h1
          clear h1 h2 hue
          have hls := So.less5_any i 0 t.1 t.2 x4
          rw [hl1] at hls
          clear hl1
          clear P0 P1 V0 V1 V2 V3 V4 U0 U1 U2 U3 U4
          have c_P := P.out
          have P0 := c_P.c0
          have P1 := c_P.c1
          clear c_P
          have c_V := V.out
          have V0 := c_V.c0
          have V1 := c_V.c1
          have V2 := c_V.c2
          have V3 := c_V.c3
          have V4 := c_V.c4
          clear c_V
          have c_U := U.out
          have U0 := c_U.c0
          have U1 := c_U.c1
          have U2 := c_U.c2
          have U3 := c_U.c3
          have U4 := c_U.c4
          clear c_U
          go_wp2_with fail
          refine (hls).mono ?_
          rintro e v5 ⟨rfl, hb⟩
          clear P0 P1 V0 V1 V2 V3 V4 U0 U1 U2 U3 U4
          have D := Lib.hid (below_on D.out hb)
          have P := Lib.hid (P.out.below hb P.out.lt)
          have V := Lib.hid (V.out.below hb V.out.lt)
          have U := Lib.hid (U.out.below hb U.out.lt)
          clear hb hls
          have hls := So.less5_any t2.1 t2.2 i 0 v5
          rw [hl2] at hls
          clear hl2
          have c_P := P.out
          have P0 := c_P.c0
          have P1 := c_P.c1
          clear c_P
          have c_V := V.out
          have V0 := c_V.c0
          have V1 := c_V.c1
          have V2 := c_V.c2
          have V3 := c_V.c3
          have V4 := c_V.c4
          clear c_V
          have c_U := U.out
          have U0 := c_U.c0
          have U1 := c_U.c1
          have U2 := c_U.c2
          have U3 := c_U.c3
          have U4 := c_U.c4
          clear c_U
          go_wp2_with fail
          refine (hls).mono ?_
          rintro e v6 ⟨rfl, hb⟩
          clear P0 P1 V0 V1 V2 V3 V4 U0 U1 U2 U3 U4
          have D := Lib.hid (below_on D.out hb)
          have P := Lib.hid (P.out.below hb P.out.lt)
          have V := Lib.hid (V.out.below hb V.out.lt)
          have U := Lib.hid (U.out.below hb U.out.lt)
          clear hb hls
          have c_P := P.out
          have P0 := c_P.c0
          have P1 := c_P.c1
          clear c_P
          have c_V := V.out
          have V0 := c_V.c0
          have V1 := c_V.c1
          have V2 := c_V.c2
          have V3 := c_V.c3
          have V4 := c_V.c4
          clear c_V
          have c_U := U.out
          have U0 := c_U.c0
          have U1 := c_U.c1
          have U2 := c_U.c2
          have U3 := c_U.c3
          have U4 := c_U.c4
          clear c_U
          go_wp2
          go_ret
          exact ⟨rfl, below_on HB1.out D.out⟩
        · rw [if_pos (decide_eq_true h2)] at c2
          clear P0 P1 V0 V1 V2 V3 V4
          have c_P := P.out
          have P0 := c_P.c0
          have P1 := c_P.c1
          clear c_P
          have c_V := V.out
          have V0 := c_V.c0
          have V1 := c_V.c1
          have V2 := c_V.c2
          have V3 := c_V.c3
          have V4 := c_V.c4
          clear c_V
          go_wp2_with fail
          refine (c2 _ D.out).mono ?_
          rintro e v3 ⟨rfl, hb⟩
          clear P0 P1 V0 V1 V2 V3 V4
          have D := Lib.hid (below_on D.out hb)
          have P := Lib.hid (P.out.below hb P.out.lt)
          have V := Lib.hid (V.out.below hb V.out.lt)
          clear hb c2
          go_upto_region 11 with fail
          obtain ⟨x4, hx4⟩ : ∃ x4, x4 = v3.alloc (.cells #[.int .i64 (t2.1 : Int), .int .i64 (t2.2 : Int), .int .i64 0, .bool true, .int .i64 (-1)] 32) := ⟨_, rfl⟩
          have hA : Below v3.heap.size v3 x4 := by rw [hx4]; exact (Below.refl _ v3).alloc (Nat.le_refl _) _
          have hV := MvAt.new v3 (t2.1 : Int) (t2.2 : Int) 0 (-1) true
          rw [← hx4] at hV ⊢
          have lt_P := P.out.lt
          have lt_V := V.out.lt
          have gg_D := D.out.size
          have D := Lib.hid (below_on D.out hA)
          have P := Lib.hid (P.out.below hA P.out.lt)
          have V := Lib.hid (V.out.below hA V.out.lt)
          obtain ⟨b_U, hbf⟩ : ∃ b, b = v3.heap.size := ⟨_, rfl⟩
          rw [← hbf] at hV ⊢
          have n_P_U := Lib.hid (show b_P ≠ b_U by omega)
          clear lt_P
          have n_V_U := Lib.hid (show b_V ≠ b_U by omega)
          clear lt_V
          have g_U_D := Lib.hid (show w1.heap.size ≤ b_U by rw [hbf]; exact gg_D)
          clear gg_D
          have U := Lib.hid hV
          clear hV hA hx4 hbf
          have c_P := P.out
          have P0 := c_P.c0
          have P1 := c_P.c1
          clear c_P
          have c_V := V.out
          have V0 := c_V.c0
          have V1 := c_V.c1
          have V2 := c_V.c2
          have V3 := c_V.c3
          have V4 := c_V.c4
          clear c_V
          have c_U := U.out
          have U0 := c_U.c0
          have U1 := c_U.c1
          have U2 := c_U.c2
          have U3 := c_U.c3
          have U4 := c_U.c4
          clear c_U
          have hl3 := cell_later D.out HC.out.2.2
          have e3 := empty_of_pos (x := lineAt ls t2.1) (by omega)
          have hz3 := hud (by omega)
          have hn3 : ∀ W, (binOp .neq 24 (.agg #[.int .i64 t2.1, .int .i64 t2.2]) (.agg #[.int .i64 0, .int .i64 0])).run Try.prog W = .ok (.bool false) W := fun W => by rw [neq_pos, hz3]; rfl
          clear h3 hz3
          clear hud
          go_upto_region 13 with fail
          clear hl3 e3 hn3
          have hne := fun W => neq_pos i 0 0 0 W
          rw [decide_eq_false (show ¬ ((i : Int) = 0) by omega)] at hne
          have hl2 : So.lt t2.1 t2.2 i 0 = true := by rw [show So.lt t2.1 t2.2 i 0 = lp t2 (i, 0) from rfl, hue]; exact decide_eq_true h2
          simp only [decide_true, Bool.and_self, Bool.not_true, Bool.false_and, Bool.not_false] at hne
          have hl1 : So.lt i 0 t.1 t.2 = true := h1
          clear h1 h2 hue
          have hls := So.less5_any i 0 t.1 t.2 x4
          rw [hl1] at hls
          clear hl1
          clear P0 P1 V0 V1 V2 V3 V4 U0 U1 U2 U3 U4
          have c_P := P.out
          have P0 := c_P.c0
          have P1 := c_P.c1
          clear c_P
          have c_V := V.out
          have V0 := c_V.c0
          have V1 := c_V.c1
          have V2 := c_V.c2
          have V3 := c_V.c3
          have V4 := c_V.c4
          clear c_V
          have c_U := U.out
          have U0 := c_U.c0
          have U1 := c_U.c1
          have U2 := c_U.c2
          have U3 := c_U.c3
          have U4 := c_U.c4
          clear c_U
          go_wp2_with fail
          refine (hls).mono ?_
          rintro e v5 ⟨rfl, hb⟩
          clear P0 P1 V0 V1 V2 V3 V4 U0 U1 U2 U3 U4
          have D := Lib.hid (below_on D.out hb)
          have P := Lib.hid (P.out.below hb P.out.lt)
          have V := Lib.hid (V.out.below hb V.out.lt)
          have U := Lib.hid (U.out.below hb U.out.lt)
          clear hb hls
          have hls := So.less5_any t2.1 t2.2 i 0 v5
          rw [hl2] at hls
          clear hl2
          have c_P := P.out
          have P0 := c_P.c0
          have P1 := c_P.c1
          clear c_P
          have c_V := V.out
          have V0 := c_V.c0
          have V1 := c_V.c1
          have V2 := c_V.c2
          have V3 := c_V.c3
          have V4 := c_V.c4
          clear c_V
          have c_U := U.out
          have U0 := c_U.c0
          have U1 := c_U.c1
          have U2 := c_U.c2
          have U3 := c_U.c3
          have U4 := c_U.c4
          clear c_U
          go_wp2_with fail
          refine (hls).mono ?_
          rintro e v6 ⟨rfl, hb⟩
          clear P0 P1 V0 V1 V2 V3 V4 U0 U1 U2 U3 U4
          have D := Lib.hid (below_on D.out hb)
          have P := Lib.hid (P.out.below hb P.out.lt)
          have V := Lib.hid (V.out.below hb V.out.lt)
          have U := Lib.hid (U.out.below hb U.out.lt)
          clear hb hls
          have c_P := P.out
          have P0 := c_P.c0
          have P1 := c_P.c1
          clear c_P
          have c_V := V.out
          have V0 := c_V.c0
          have V1 := c_V.c1
          have V2 := c_V.c2
          have V3 := c_V.c3
          have V4 := c_V.c4
          clear c_V
          have c_U := U.out
          have U0 := c_U.c0
          have U1 := c_U.c1
          have U2 := c_U.c2
          have U3 := c_U.c3
          have U4 := c_U.c4
          clear c_U
          go_wp2
          go_ret
          exact ⟨rfl, below_on HB1.out D.out⟩
      · rw [if_neg (by rw [decide_eq_false h2]; simp)] at c2
        unfold R.no at c2
        clear P0 P1 V0 V1 V2 V3 V4
        have c_P := P.out
        have P0 := c_P.c0
        have P1 := c_P.c1
        clear c_P
        have c_V := V.out
        have V0 := c_V.c0
        have V1 := c_V.c1
        have V2 := c_V.c2
        have V3 := c_V.c3
        have V4 := c_V.c4
        clear c_V
        go_wp2_with fail
        refine (c2 _ D.out).mono ?_
        rintro e v3 ⟨rfl, hb⟩
        clear P0 P1 V0 V1 V2 V3 V4
        have D := Lib.hid (below_on D.out hb)
        have P := Lib.hid (P.out.below hb P.out.lt)
        have V := Lib.hid (V.out.below hb V.out.lt)
        clear hb c2
        go_upto_region 11 with fail
        obtain ⟨x4, hx4⟩ : ∃ x4, x4 = v3.alloc (.cells #[.int .i64 0, .int .i64 0, .int .i64 0, .bool false, .int .i64 0] 32) := ⟨_, rfl⟩
        have hA : Below v3.heap.size v3 x4 := by rw [hx4]; exact (Below.refl _ v3).alloc (Nat.le_refl _) _
        have hV := MvAt.new v3 0 0 0 0 false
        rw [← hx4] at hV ⊢
        have lt_P := P.out.lt
        have lt_V := V.out.lt
        have gg_D := D.out.size
        have D := Lib.hid (below_on D.out hA)
        have P := Lib.hid (P.out.below hA P.out.lt)
        have V := Lib.hid (V.out.below hA V.out.lt)
        obtain ⟨b_U, hbf⟩ : ∃ b, b = v3.heap.size := ⟨_, rfl⟩
        rw [← hbf] at hV ⊢
        have n_P_U := Lib.hid (show b_P ≠ b_U by omega)
        clear lt_P
        have n_V_U := Lib.hid (show b_V ≠ b_U by omega)
        clear lt_V
        have g_U_D := Lib.hid (show w1.heap.size ≤ b_U by rw [hbf]; exact gg_D)
        clear gg_D
        have U := Lib.hid hV
        clear hV hA hx4 hbf
        have c_P := P.out
        have P0 := c_P.c0
        have P1 := c_P.c1
        clear c_P
        have c_V := V.out
        have V0 := c_V.c0
        have V1 := c_V.c1
        have V2 := c_V.c2
        have V3 := c_V.c3
        have V4 := c_V.c4
        clear c_V
        have c_U := U.out
        have U0 := c_U.c0
        have U1 := c_U.c1
        have U2 := c_U.c2
        have U3 := c_U.c3
        have U4 := c_U.c4
        clear c_U
        clear hud
        go_upto_region 13 with fail
        have hne := fun W => neq_pos i 0 0 0 W
        rw [decide_eq_true (show (i : Int) = 0 by omega)] at hne
        simp only [decide_true, Bool.and_self, Bool.not_true, Bool.false_and, Bool.not_false] at hne
        have hl1 : So.lt i 0 t.1 t.2 = true := h1
        clear h1 h2 hue
        have hls := So.less5_any i 0 t.1 t.2 x4
        rw [hl1] at hls
        clear hl1
        clear P0 P1 V0 V1 V2 V3 V4 U0 U1 U2 U3 U4
        have c_P := P.out
        have P0 := c_P.c0
        have P1 := c_P.c1
        clear c_P
        have c_V := V.out
        have V0 := c_V.c0
        have V1 := c_V.c1
        have V2 := c_V.c2
        have V3 := c_V.c3
        have V4 := c_V.c4
        clear c_V
        have c_U := U.out
        have U0 := c_U.c0
        have U1 := c_U.c1
        have U2 := c_U.c2
        have U3 := c_U.c3
        have U4 := c_U.c4
        clear c_U
        go_wp2_with fail
        refine (hls).mono ?_
        rintro e v5 ⟨rfl, hb⟩
        clear P0 P1 V0 V1 V2 V3 V4 U0 U1 U2 U3 U4
        have D := Lib.hid (below_on D.out hb)
        have P := Lib.hid (P.out.below hb P.out.lt)
        have V := Lib.hid (V.out.below hb V.out.lt)
        have U := Lib.hid (U.out.below hb U.out.lt)
        clear hb hls
        have c_P := P.out
        have P0 := c_P.c0
        have P1 := c_P.c1
        clear c_P
        have c_V := V.out
        have V0 := c_V.c0
        have V1 := c_V.c1
        have V2 := c_V.c2
        have V3 := c_V.c3
        have V4 := c_V.c4
        clear c_V
        have c_U := U.out
        have U0 := c_U.c0
        have U1 := c_U.c1
        have U2 := c_U.c2
        have U3 := c_U.c3
        have U4 := c_U.c4
        clear c_U
        go_wp2
        go_ret
        exact ⟨rfl, below_on HB1.out D.out⟩
  · rw [if_neg h1] at c1
    unfold R.no at c1
    clear P0 P1
    have c_P := P.out
    have P0 := c_P.c0
    have P1 := c_P.c1
    clear c_P
    go_wp2_with fail
    refine (c1 _ D.out).mono ?_
    rintro e v1 ⟨rfl, hb⟩
    clear P0 P1
    have D := Lib.hid (below_on D.out hb)
    have P := Lib.hid (P.out.below hb P.out.lt)
    clear hb c1
    go_upto_region 8 with fail
    obtain ⟨x3, hx3⟩ : ∃ x3, x3 = v1.alloc (.cells #[.int .i64 0, .int .i64 0, .int .i64 0, .bool false, .int .i64 0] 32) := ⟨_, rfl⟩
    have hA : Below v1.heap.size v1 x3 := by rw [hx3]; exact (Below.refl _ v1).alloc (Nat.le_refl _) _
    have hV := MvAt.new v1 0 0 0 0 false
    rw [← hx3] at hV ⊢
    have lt_P := P.out.lt
    have gg_D := D.out.size
    have D := Lib.hid (below_on D.out hA)
    have P := Lib.hid (P.out.below hA P.out.lt)
    obtain ⟨b_V, hbf⟩ : ∃ b, b = v1.heap.size := ⟨_, rfl⟩
    rw [← hbf] at hV ⊢
    have n_P_V := Lib.hid (show b_P ≠ b_V by omega)
    clear lt_P
    have g_V_D := Lib.hid (show w1.heap.size ≤ b_V by rw [hbf]; exact gg_D)
    clear gg_D
    have V := Lib.hid hV
    clear hV hA hx3 hbf
    have c_P := P.out
    have P0 := c_P.c0
    have P1 := c_P.c1
    clear c_P
    have c_V := V.out
    have V0 := c_V.c0
    have V1 := c_V.c1
    have V2 := c_V.c2
    have V3 := c_V.c3
    have V4 := c_V.c4
    clear c_V
    have hl1 := cell_later D.out HC.out.1
    have hl2 := cell_later D.out HC.out.2.1
    have f_P0 := fun z : Gr x3 => z.cell P0
    have f_P1 := fun z : Gr x3 => z.cell P1
    have f_V0 := fun z : Gr x3 => z.cell V0
    have f_V1 := fun z : Gr x3 => z.cell V1
    have f_V2 := fun z : Gr x3 => z.cell V2
    have f_V3 := fun z : Gr x3 => z.cell V3
    have f_V4 := fun z : Gr x3 => z.cell V4
    have f_hl1 := fun z : Gr x3 => z.cell hl1
    have f_hl2 := fun z : Gr x3 => z.cell hl2
    clear P0 P1 V0 V1 V2 V3 V4
    clear hl1 hl2 htd
    refine wp_region_grow (by kernel_rfl) (by kernel_rfl) ?_
    repeat (go_big_quiet_step (fail))
    refine wpQuiet_nil ?_
    rintro w7 ⟨⟨_, hb_w7⟩, rfl⟩
    have D := Lib.hid (below_on D.out hb_w7)
    have P := Lib.hid (P.out.below hb_w7 P.out.lt)
    have V := Lib.hid (V.out.below hb_w7 V.out.lt)
    clear hb_w7 f_P0 f_P1 f_V0 f_V1 f_V2 f_V3 f_V4 f_hl1 f_hl2
    have c_P := P.out
    have P0 := c_P.c0
    have P1 := c_P.c1
    clear c_P
    have c_V := V.out
    have V0 := c_V.c0
    have V1 := c_V.c1
    have V2 := c_V.c2
    have V3 := c_V.c3
    have V4 := c_V.c4
    clear c_V
    go_upto_region 10 with fail
    by_cases h2 : 0 < i
    · by_cases h3 : (lineAt ls t2.1).size = 0
      · rw [if_pos (decide_eq_true h2)] at c2
        clear P0 P1 V0 V1 V2 V3 V4
        have c_P := P.out
        have P0 := c_P.c0
        have P1 := c_P.c1
        clear c_P
        have c_V := V.out
        have V0 := c_V.c0
        have V1 := c_V.c1
        have V2 := c_V.c2
        have V3 := c_V.c3
        have V4 := c_V.c4
        clear c_V
        go_wp2_with fail
        refine (c2 _ D.out).mono ?_
        rintro e v3 ⟨rfl, hb⟩
        clear P0 P1 V0 V1 V2 V3 V4
        have D := Lib.hid (below_on D.out hb)
        have P := Lib.hid (P.out.below hb P.out.lt)
        have V := Lib.hid (V.out.below hb V.out.lt)
        clear hb c2
        go_upto_region 11 with fail
        obtain ⟨x4, hx4⟩ : ∃ x4, x4 = v3.alloc (.cells #[.int .i64 (t2.1 : Int), .int .i64 (t2.2 : Int), .int .i64 0, .bool true, .int .i64 (-1)] 32) := ⟨_, rfl⟩
        have hA : Below v3.heap.size v3 x4 := by rw [hx4]; exact (Below.refl _ v3).alloc (Nat.le_refl _) _
        have hV := MvAt.new v3 (t2.1 : Int) (t2.2 : Int) 0 (-1) true
        rw [← hx4] at hV ⊢
        have lt_P := P.out.lt
        have lt_V := V.out.lt
        have gg_D := D.out.size
        have D := Lib.hid (below_on D.out hA)
        have P := Lib.hid (P.out.below hA P.out.lt)
        have V := Lib.hid (V.out.below hA V.out.lt)
        obtain ⟨b_U, hbf⟩ : ∃ b, b = v3.heap.size := ⟨_, rfl⟩
        rw [← hbf] at hV ⊢
        have n_P_U := Lib.hid (show b_P ≠ b_U by omega)
        clear lt_P
        have n_V_U := Lib.hid (show b_V ≠ b_U by omega)
        clear lt_V
        have g_U_D := Lib.hid (show w1.heap.size ≤ b_U by rw [hbf]; exact gg_D)
        clear gg_D
        have U := Lib.hid hV
        clear hV hA hx4 hbf
        have c_P := P.out
        have P0 := c_P.c0
        have P1 := c_P.c1
        clear c_P
        have c_V := V.out
        have V0 := c_V.c0
        have V1 := c_V.c1
        have V2 := c_V.c2
        have V3 := c_V.c3
        have V4 := c_V.c4
        clear c_V
        have c_U := U.out
        have U0 := c_U.c0
        have U1 := c_U.c1
        have U2 := c_U.c2
        have U3 := c_U.c3
        have U4 := c_U.c4
        clear c_U
        have hl3 := cell_later D.out HC.out.2.2
        have e3 := empty_of_zero h3
        clear h3
        clear hud
        go_upto_region 13 with fail
        clear hl3 e3
        have hne := fun W => neq_pos i 0 0 0 W
        rw [decide_eq_false (show ¬ ((i : Int) = 0) by omega)] at hne
        have hl2 : So.lt t2.1 t2.2 i 0 = true := by rw [show So.lt t2.1 t2.2 i 0 = lp t2 (i, 0) from rfl, hue]; exact decide_eq_true h2
        simp only [decide_true, Bool.and_self, Bool.not_true, Bool.false_and, Bool.not_false] at hne
        clear h1 h2 hue
        have hls := So.less5_any t2.1 t2.2 i 0 x4
        rw [hl2] at hls
        clear hl2
        clear P0 P1 V0 V1 V2 V3 V4 U0 U1 U2 U3 U4
        have c_P := P.out
        have P0 := c_P.c0
        have P1 := c_P.c1
        clear c_P
        have c_V := V.out
        have V0 := c_V.c0
        have V1 := c_V.c1
        have V2 := c_V.c2
        have V3 := c_V.c3
        have V4 := c_V.c4
        clear c_V
        have c_U := U.out
        have U0 := c_U.c0
        have U1 := c_U.c1
        have U2 := c_U.c2
        have U3 := c_U.c3
        have U4 := c_U.c4
        clear c_U
        go_wp2_with fail
        refine (hls).mono ?_
        rintro e v6 ⟨rfl, hb⟩
        clear P0 P1 V0 V1 V2 V3 V4 U0 U1 U2 U3 U4
        have D := Lib.hid (below_on D.out hb)
        have P := Lib.hid (P.out.below hb P.out.lt)
        have V := Lib.hid (V.out.below hb V.out.lt)
        have U := Lib.hid (U.out.below hb U.out.lt)
        clear hb hls
        have c_P := P.out
        have P0 := c_P.c0
        have P1 := c_P.c1
        clear c_P
        have c_V := V.out
        have V0 := c_V.c0
        have V1 := c_V.c1
        have V2 := c_V.c2
        have V3 := c_V.c3
        have V4 := c_V.c4
        clear c_V
        have c_U := U.out
        have U0 := c_U.c0
        have U1 := c_U.c1
        have U2 := c_U.c2
        have U3 := c_U.c3
        have U4 := c_U.c4
        clear c_U
        go_wp2
        go_ret
        exact ⟨rfl, below_on HB1.out D.out⟩
      · rw [if_pos (decide_eq_true h2)] at c2
        clear P0 P1 V0 V1 V2 V3 V4
        have c_P := P.out
        have P0 := c_P.c0
        have P1 := c_P.c1
        clear c_P
        have c_V := V.out
        have V0 := c_V.c0
        have V1 := c_V.c1
        have V2 := c_V.c2
        have V3 := c_V.c3
        have V4 := c_V.c4
        clear c_V
        go_wp2_with fail
        refine (c2 _ D.out).mono ?_
        rintro e v3 ⟨rfl, hb⟩
        clear P0 P1 V0 V1 V2 V3 V4
        have D := Lib.hid (below_on D.out hb)
        have P := Lib.hid (P.out.below hb P.out.lt)
        have V := Lib.hid (V.out.below hb V.out.lt)
        clear hb c2
        go_upto_region 11 with fail
        obtain ⟨x4, hx4⟩ : ∃ x4, x4 = v3.alloc (.cells #[.int .i64 (t2.1 : Int), .int .i64 (t2.2 : Int), .int .i64 0, .bool true, .int .i64 (-1)] 32) := ⟨_, rfl⟩
        have hA : Below v3.heap.size v3 x4 := by rw [hx4]; exact (Below.refl _ v3).alloc (Nat.le_refl _) _
        have hV := MvAt.new v3 (t2.1 : Int) (t2.2 : Int) 0 (-1) true
        rw [← hx4] at hV ⊢
        have lt_P := P.out.lt
        have lt_V := V.out.lt
        have gg_D := D.out.size
        have D := Lib.hid (below_on D.out hA)
        have P := Lib.hid (P.out.below hA P.out.lt)
        have V := Lib.hid (V.out.below hA V.out.lt)
        obtain ⟨b_U, hbf⟩ : ∃ b, b = v3.heap.size := ⟨_, rfl⟩
        rw [← hbf] at hV ⊢
        have n_P_U := Lib.hid (show b_P ≠ b_U by omega)
        clear lt_P
        have n_V_U := Lib.hid (show b_V ≠ b_U by omega)
        clear lt_V
        have g_U_D := Lib.hid (show w1.heap.size ≤ b_U by rw [hbf]; exact gg_D)
        clear gg_D
        have U := Lib.hid hV
        clear hV hA hx4 hbf
        have c_P := P.out
        have P0 := c_P.c0
        have P1 := c_P.c1
        clear c_P
        have c_V := V.out
        have V0 := c_V.c0
        have V1 := c_V.c1
        have V2 := c_V.c2
        have V3 := c_V.c3
        have V4 := c_V.c4
        clear c_V
        have c_U := U.out
        have U0 := c_U.c0
        have U1 := c_U.c1
        have U2 := c_U.c2
        have U3 := c_U.c3
        have U4 := c_U.c4
        clear c_U
        have hl3 := cell_later D.out HC.out.2.2
        have e3 := empty_of_pos (x := lineAt ls t2.1) (by omega)
        have hz3 := hud (by omega)
        have hn3 : ∀ W, (binOp .neq 24 (.agg #[.int .i64 t2.1, .int .i64 t2.2]) (.agg #[.int .i64 0, .int .i64 0])).run Try.prog W = .ok (.bool false) W := fun W => by rw [neq_pos, hz3]; rfl
        clear h3 hz3
        clear hud
        go_upto_region 13 with fail
        clear hl3 e3 hn3
        have hne := fun W => neq_pos i 0 0 0 W
        rw [decide_eq_false (show ¬ ((i : Int) = 0) by omega)] at hne
        have hl2 : So.lt t2.1 t2.2 i 0 = true := by rw [show So.lt t2.1 t2.2 i 0 = lp t2 (i, 0) from rfl, hue]; exact decide_eq_true h2
        simp only [decide_true, Bool.and_self, Bool.not_true, Bool.false_and, Bool.not_false] at hne
        clear h1 h2 hue
        have hls := So.less5_any t2.1 t2.2 i 0 x4
        rw [hl2] at hls
        clear hl2
        clear P0 P1 V0 V1 V2 V3 V4 U0 U1 U2 U3 U4
        have c_P := P.out
        have P0 := c_P.c0
        have P1 := c_P.c1
        clear c_P
        have c_V := V.out
        have V0 := c_V.c0
        have V1 := c_V.c1
        have V2 := c_V.c2
        have V3 := c_V.c3
        have V4 := c_V.c4
        clear c_V
        have c_U := U.out
        have U0 := c_U.c0
        have U1 := c_U.c1
        have U2 := c_U.c2
        have U3 := c_U.c3
        have U4 := c_U.c4
        clear c_U
        go_wp2_with fail
        refine (hls).mono ?_
        rintro e v6 ⟨rfl, hb⟩
        clear P0 P1 V0 V1 V2 V3 V4 U0 U1 U2 U3 U4
        have D := Lib.hid (below_on D.out hb)
        have P := Lib.hid (P.out.below hb P.out.lt)
        have V := Lib.hid (V.out.below hb V.out.lt)
        have U := Lib.hid (U.out.below hb U.out.lt)
        clear hb hls
        have c_P := P.out
        have P0 := c_P.c0
        have P1 := c_P.c1
        clear c_P
        have c_V := V.out
        have V0 := c_V.c0
        have V1 := c_V.c1
        have V2 := c_V.c2
        have V3 := c_V.c3
        have V4 := c_V.c4
        clear c_V
        have c_U := U.out
        have U0 := c_U.c0
        have U1 := c_U.c1
        have U2 := c_U.c2
        have U3 := c_U.c3
        have U4 := c_U.c4
        clear c_U
        go_wp2
        go_ret
        exact ⟨rfl, below_on HB1.out D.out⟩
    · rw [if_neg (by rw [decide_eq_false h2]; simp)] at c2
      unfold R.no at c2
      clear P0 P1 V0 V1 V2 V3 V4
      have c_P := P.out
      have P0 := c_P.c0
      have P1 := c_P.c1
      clear c_P
      have c_V := V.out
      have V0 := c_V.c0
      have V1 := c_V.c1
      have V2 := c_V.c2
      have V3 := c_V.c3
      have V4 := c_V.c4
      clear c_V
      go_wp2_with fail
      refine (c2 _ D.out).mono ?_
      rintro e v3 ⟨rfl, hb⟩
      clear P0 P1 V0 V1 V2 V3 V4
      have D := Lib.hid (below_on D.out hb)
      have P := Lib.hid (P.out.below hb P.out.lt)
      have V := Lib.hid (V.out.below hb V.out.lt)
      clear hb c2
      go_upto_region 11 with fail
      obtain ⟨x4, hx4⟩ : ∃ x4, x4 = v3.alloc (.cells #[.int .i64 0, .int .i64 0, .int .i64 0, .bool false, .int .i64 0] 32) := ⟨_, rfl⟩
      have hA : Below v3.heap.size v3 x4 := by rw [hx4]; exact (Below.refl _ v3).alloc (Nat.le_refl _) _
      have hV := MvAt.new v3 0 0 0 0 false
      rw [← hx4] at hV ⊢
      have lt_P := P.out.lt
      have lt_V := V.out.lt
      have gg_D := D.out.size
      have D := Lib.hid (below_on D.out hA)
      have P := Lib.hid (P.out.below hA P.out.lt)
      have V := Lib.hid (V.out.below hA V.out.lt)
      obtain ⟨b_U, hbf⟩ : ∃ b, b = v3.heap.size := ⟨_, rfl⟩
      rw [← hbf] at hV ⊢
      have n_P_U := Lib.hid (show b_P ≠ b_U by omega)
      clear lt_P
      have n_V_U := Lib.hid (show b_V ≠ b_U by omega)
      clear lt_V
      have g_U_D := Lib.hid (show w1.heap.size ≤ b_U by rw [hbf]; exact gg_D)
      clear gg_D
      have U := Lib.hid hV
      clear hV hA hx4 hbf
      have c_P := P.out
      have P0 := c_P.c0
      have P1 := c_P.c1
      clear c_P
      have c_V := V.out
      have V0 := c_V.c0
      have V1 := c_V.c1
      have V2 := c_V.c2
      have V3 := c_V.c3
      have V4 := c_V.c4
      clear c_V
      have c_U := U.out
      have U0 := c_U.c0
      have U1 := c_U.c1
      have U2 := c_U.c2
      have U3 := c_U.c3
      have U4 := c_U.c4
      clear c_U
      clear hud
      go_upto_region 13 with fail
      have hne := fun W => neq_pos i 0 0 0 W
      rw [decide_eq_true (show (i : Int) = 0 by omega)] at hne
      simp only [decide_true, Bool.and_self, Bool.not_true, Bool.false_and, Bool.not_false] at hne
      clear h1 h2 hue
      clear P0 P1 V0 V1 V2 V3 V4 U0 U1 U2 U3 U4
      have c_P := P.out
      have P0 := c_P.c0
      have P1 := c_P.c1
      clear c_P
      have c_V := V.out
      have V0 := c_V.c0
      have V1 := c_V.c1
      have V2 := c_V.c2
      have V3 := c_V.c3
      have V4 := c_V.c4
      clear c_V
      have c_U := U.out
      have U0 := c_U.c0
      have U1 := c_U.c1
      have U2 := c_U.c2
      have U3 := c_U.c3
      have U4 := c_U.c4
      clear c_U
      go_wp2
      go_ret
      exact ⟨rfl, below_on HB1.out D.out⟩
end Go.Proofs.Ytpdbfdhfonfbeaa.GEmp
