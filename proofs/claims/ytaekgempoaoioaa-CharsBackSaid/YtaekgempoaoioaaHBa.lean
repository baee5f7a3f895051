/-
  The law CharsBack, walked.
-/
import Derived.Test.YtaekgempoaoioaaHw
import Derived.Test.YtaekgempoaoioaaMo
set_option linter.unusedVariables false
set_option linter.unusedSimpArgs false
set_option maxRecDepth 100000
namespace Go.Proofs.Ytaekgempoaoioaa.HBa
open Go Go.RowKit Go.Proofs.Ytaekgempoaoioaa.Vk Go.Proofs.Ytaekgempoaoioaa.Str Go.Proofs.Ytaekgempoaoioaa.Ln Go.Proofs.Ytaekgempoaoioaa.Cl Go.Proofs.Ytaekgempoaoioaa.Mv Go.Proofs.Ytaekgempoaoioaa.Ch
attribute [local go_sem] Oper.semAt_some
set_option maxHeartbeats 4000000

theorem walk (a : Option Addr) (n c' : Nat) (ls : List ByteArray) (x y q : Int) (w : World) (h : Ss w a n c' ls) (hs : ∀ s ∈ ls, s.size ≤ 140737488355328) (hx : (Lit.int .u16 x).wf = true) (hy : (Lit.int .u16 y).wf = true) (hq0 : (Lit.int .u8 q).wf = true) :
    Calls Try.prog 7 #[.slice a n c', .int .u16 x, .int .u16 y, .int .u8 q] w fun e w' => e = .returned (.bool true) ∧ Below w.heap.size w w' := by
  have hk := known_any w
  have x2 : 0 ≤ x ∧ x ≤ 65535 := by simpa [Lit.wf, IntKind.min, IntKind.max, IntKind.signed, IntKind.bits] using hx
  have y2 : 0 ≤ y ∧ y ≤ 65535 := by simpa [Lit.wf, IntKind.min, IntKind.max, IntKind.signed, IntKind.bits] using hy
  have q2 : 0 ≤ q ∧ q ≤ 255 := by simpa [Lit.wf, IntKind.min, IntKind.max, IntKind.signed, IntKind.bits] using hq0
  go_enter Try.func7, Try.ntmps7
  go_wp2_with fail
  refine hk.mono ?_
  rintro e w1 ⟨rfl, hb1⟩
  have htx := text_any a n c' ls w1 (SrcV.below h hb1) hs
  have HS1 := Lib.hid (SrcV.below h hb1)
  have HB1 := Lib.hid hb1
  clear hk hb1 h
  go_wp2_with fail
  refine htx.mono ?_
  rintro e w' ⟨qq, rfl, rfl, hq⟩
  clear htx
  cases qq
  · clear hq
    go_wp2
    go_ret
    exact ⟨rfl, HB1.out⟩
  obtain ⟨hn0, hn40, hz, _⟩ := hq rfl
  clear hq
  have hse := seat_any a n c' ls x y w1 HS1.out hn0 hs x2 y2
  go_wp2_with fail
  refine hse.mono ?_
  rintro e w2 ⟨⟨i, m, rfl, hi, hm⟩, hb2⟩
  have D := Lib.hid hb2
  clear hse hb2
  go_upto_region 6 with fail
  obtain ⟨x2, hx2⟩ : ∃ x2, x2 = w2.alloc (.cells #[.int .i64 (i : Int), .int .i64 (m : Int)] 24) := ⟨_, rfl⟩
  have hA : Below w2.heap.size w2 x2 := by rw [hx2]; exact (Below.refl _ w2).alloc (Nat.le_refl _) _
  have hV := PosAt.new w2 (i : Int) (m : Int)
  rw [← hx2] at hV ⊢
  have gg_D := D.out.size
  have D := Lib.hid (below_on D.out hA)
  obtain ⟨b_P, hbf⟩ : ∃ b, b = w2.heap.size := ⟨_, rfl⟩
  rw [← hbf] at hV ⊢
  have g_P_D := Lib.hid (show w1.heap.size ≤ b_P by rw [hbf]; exact gg_D)
  clear gg_D
  have P := Lib.hid hV
  clear hV hA hx2 hbf
  have c_P := P.out
  have P0 := c_P.c0
  have P1 := c_P.c1
  clear c_P
  have hlen := Ss.length HS1.out
  have hP : Plc ls (i : Int) (m : Int) := (plc_nat (by omega)).2 hm
  have hin : lineAt ls i ∈ ls := by rw [lineAt_get (by omega)]; exact List.getElem_mem _
  have hsz : (lineAt ls i).size + 1 ≤ tz ls := tz_mem _ _ hin
  obtain ⟨bs, os, ha, hcell, hnc, _⟩ := Ss.read HS1.out i (by omega)
  rw [← lineAt_get (by omega)] at hcell
  subst ha
  have hc := cell_later D.out hcell
  have hsz2 : (lineAt ls i).size ≤ 1000000 := by omega
  have h6 : ∀ s ∈ ls, s6 s := fun s hs' => by have := tz_mem ls s hs'; show s.size ≤ 1000000; omega
  by_cases hA : m < (lineAt ls i).size
  rotate_left
  · generalize lineAt ls i = s at *
    have hA2 : s.size ≤ m := by omega
    clear hA
    go_wp2
    go_ret
    exact ⟨rfl, below_on HB1.out D.out⟩
  obtain ⟨K, hK, hK3⟩ : ∃ K : Nat, q % 3 + 1 = (K : Int) ∧ 1 ≤ K := ⟨(q % 3 + 1).toNat, by omega, by omega⟩
  have hKs : K ≤ 1000 := by omega
  have ew0 : IntKind.u8.wrap (q.tmod 3) = q % 3 := by
    have h1 := Int.tmod_eq_emod_of_nonneg (b := 3) q2.1
    simp [IntKind.wrap, IntKind.bits, IntKind.signed]; omega
  have ew01 : IntKind.u8.wrap (q % 3) = q % 3 := by
    simp [IntKind.wrap, IntKind.bits, IntKind.signed]; omega
  have ew1 : IntKind.i64.wrap (q % 3) = q % 3 := by rw [IntKind.wrap_i64]; omega
  have ew2 : IntKind.i64.wrap (q % 3 + 1) = (K : Int) := by rw [IntKind.wrap_i64]; omega
  have hA1 : ¬ (lineAt ls i).size ≤ m := by omega
  obtain ⟨bt, hat⟩ : ∃ bt : Int, atc (lineAt ls i) m = bt := ⟨_, rfl⟩
  have hz1 : ∀ hh : m < (lineAt ls i).size, (((lineAt ls i)[m]'hh).toNat : Int) = bt := fun hh => by rw [← hat, atc_in hh]
  have k1 := fun W (hW : Below w1.heap.size w1 W) => seek_any _ n c' ls i m 102 bt K W (SrcV.below HS1.out hW) hs h6
  rw [seekR_in hP (by omega), Int.toNat_natCast, show seekAt (lineAt ls i) m bt K 102 = seekF (lineAt ls i) m bt K from rfl] at k1
  have k2 := fun (j : Nat) W (hW : Below w1.heap.size w1 W) => seek_any _ n c' ls i j 70 bt K W (SrcV.below HS1.out hW) hs h6
  have hPj := fun (j : Nat) (hj : j < (lineAt ls i).size) => (plc_nat (ls := ls) (i := i) (k := j) (by omega)).2 (by omega)
  have hr2 := fun (j : Nat) (hj : j < (lineAt ls i).size) => seekR_in (key := 70) (b := bt) (k := (K : Int)) (hPj j hj) (by omega)
  clear hPj hP hin hcell hsz hm hi hz hn40 hn0 hK hlen

  cases hr : seekF (lineAt ls i) m bt K with
  | none =>
    rw [hr] at k1
    unfold seekRes R.no at k1
    clear hr k2 hr2 hat
    generalize lineAt ls i = s at *
    go_wp2_with fail
    have F_P0 := fun (C : World → Prop) (hC : Grows x2 C) (y : In C) => hC.cell P0 y
    have F_P1 := fun (C : World → Prop) (hC : Grows x2 C) (y : In C) => hC.cell P1 y
    clear P0 P1
    refine wp_region_seg [0, 1, 2, 3, 4, 5, 6, 7, 8, 9] [(10, 2), (11, 1), (12, 3), (13, 2)] (by kernel_rfl) (by kernel_rfl) 81 rfl (by kernel_rfl) ?_
    simp only [List.map_cons, List.map_nil, opOf_succ, opOf_zero]
    apply Exists.intro
    refine ⟨fun C hC => ?_, ?_⟩
    · haveI hI := hC.one
      have f_P0 := F_P0 C hC
      have f_P1 := F_P1 C hC
      have g1 := fun y : In C => k1 y.W (below_on D.out (hC.below _ y.isIn))
      repeat (go_big_quiet_step (first | (go_at_call 25; exact Calls.in_of hC (g1 _))))
      exact wpQuiet_nil rfl
    clear F_P0 F_P1 k1
    refine wpPath_free (v := .bool false) rfl rfl (fun W => run_extract _ _ W) ?_
    simp only [opOf_succ, opOf_zero, Act.put, List.setIfInBounds_toArray, List.set_cons_zero, List.set_cons_succ]
    refine wpPath_make rfl fun w0 hb_w0 => ⟨_, _, rfl, run_mv w0, (Below.refl _ w0).alloc (Nat.le_refl _) _, ?_⟩
    simp only [opOf_succ, opOf_zero, Act.put, List.setIfInBounds_toArray, List.set_cons_zero, List.set_cons_succ]
    have hbb := below_on hb_w0 ((Below.refl _ w0).alloc (Nat.le_refl _) (.cells #[.int .i64 0, .int .i64 0, .int .i64 0, .bool false, .int .i64 0] 32))
    have hV := MvAt.new w0 0 0 0 0 false
    obtain ⟨w0v, hw0v⟩ : ∃ v, v = w0.alloc (.cells #[.int .i64 0, .int .i64 0, .int .i64 0, .bool false, .int .i64 0] 32) := ⟨_, rfl⟩
    rw [← hw0v] at hbb hV ⊢
    clear hw0v
    have lt_P := P.out.lt
    have gg := below_on D.out hb_w0
    have D := Lib.hid (below_on D.out hbb)
    have P := Lib.hid (P.out.below hbb P.out.lt)
    obtain ⟨b_V, hbf⟩ : ∃ b, b = w0.heap.size := ⟨_, rfl⟩
    rw [← hbf] at hV ⊢
    have n_P_V := Lib.hid (show b_P ≠ b_V by have := hb_w0.size; omega)
    clear lt_P
    have g_V_D := Lib.hid (show w1.heap.size ≤ b_V by have := gg.size; omega)
    have V := Lib.hid hV
    clear hV hbf hbb hb_w0 gg
    refine wpPath_store rfl fun w0s hb_s => ?_
    have D := Lib.hid (below_on D.out hb_s)
    have P := Lib.hid (P.out.below hb_s P.out.lt)
    have V := Lib.hid (V.out.below hb_s V.out.lt)
    refine ⟨_, rfl, run_store_mv V.out, ?_⟩
    simp only [opOf_succ, opOf_zero, Act.put, List.setIfInBounds_toArray, List.set_cons_zero, List.set_cons_succ]
    obtain ⟨w0p, hw0p⟩ : ∃ w0p, w0p = put5 w0s b_V 0 0 0 false 0 := ⟨_, rfl⟩
    rw [← hw0p]
    have D := Lib.hid (show Below w1.heap.size w1 w0p by rw [hw0p]; exact put5_below D.out g_V_D.out _ _ _ _ _)
    have P := Lib.hid (show PosAt w0p b_P (i : Int) (m : Int) by rw [hw0p]; exact P.out.other5 (n_P_V.out))
    have V := Lib.hid (show MvAt w0p b_V 0 0 0 false 0 by rw [hw0p]; exact V.out.put _ _ _ _ _)
    clear hw0p hb_s
    refine wpPath_free (v := .bool false) rfl rfl (fun _ => rfl) ?_
    simp only [opOf_succ, opOf_zero, Act.put, List.setIfInBounds_toArray, List.set_cons_zero, List.set_cons_succ]
    refine wpPath_end fun x3 hb_e => ?_
    have D := Lib.hid (below_on D.out hb_e)
    have P := Lib.hid (P.out.below hb_e P.out.lt)
    have V := Lib.hid (V.out.below hb_e V.out.lt)
    clear hb_e
    have c_P := P.out
    have P0 := c_P.c0
    have P1 := c_P.c1
    clear c_P
    have c_V := V.out
    have V0 := c_V.c0
    have V1 := c_V.c1
    have V2 := c_V.c2
    have V3 := c_V.c3
    have V4 := c_V.c4
    clear c_V
    go_wp2
    go_ret
    exact ⟨rfl, below_on HB1.out D.out⟩
  | some j =>
    obtain ⟨hbw, haj, hjs⟩ := seekF_get hr
    have hr2 := hr2 j hjs
    rw [Int.toNat_natCast, show seekAt (lineAt ls i) j bt K 70 = seekB (lineAt ls i) j bt K from rfl, seekB_eq hbw hat] at hr2
    have k2 := k2 j
    rw [hr2] at k2
    rw [hr] at k1
    rw [show seekRes (i : Int) 102 (some j) = ⟨i, j, 1, false, -1, true⟩ from rfl] at k1
    rw [show seekRes (i : Int) 70 (some m) = ⟨i, m, 0, false, -1, true⟩ from rfl] at k2
    clear hr hr2 hat hbw haj hjs
    generalize lineAt ls i = s at *
    go_wp2_with fail
    have F_P0 := fun (C : World → Prop) (hC : Grows x2 C) (y : In C) => hC.cell P0 y
    have F_P1 := fun (C : World → Prop) (hC : Grows x2 C) (y : In C) => hC.cell P1 y
    clear P0 P1
    refine wp_region_seg [0, 1, 2, 3, 4, 5, 6, 7, 8, 9] [(10, 2), (11, 1), (12, 3), (13, 2)] (by kernel_rfl) (by kernel_rfl) 81 rfl (by kernel_rfl) ?_
    simp only [List.map_cons, List.map_nil, opOf_succ, opOf_zero]
    apply Exists.intro
    refine ⟨fun C hC => ?_, ?_⟩
    · haveI hI := hC.one
      have f_P0 := F_P0 C hC
      have f_P1 := F_P1 C hC
      have g1 := fun y : In C => k1 y.W (below_on D.out (hC.below _ y.isIn))
      repeat (go_big_quiet_step (first | (go_at_call 25; exact Calls.in_of hC (g1 _))))
      exact wpQuiet_nil rfl
    clear F_P0 F_P1 k1
    refine wpPath_free (v := .bool true) rfl rfl (fun W => run_extract _ _ W) ?_
    simp only [opOf_succ, opOf_zero, Act.put, List.setIfInBounds_toArray, List.set_cons_zero, List.set_cons_succ]
    refine wpPath_make rfl fun w0 hb_w0 => ⟨_, _, rfl, run_mv w0, (Below.refl _ w0).alloc (Nat.le_refl _) _, ?_⟩
    simp only [opOf_succ, opOf_zero, Act.put, List.setIfInBounds_toArray, List.set_cons_zero, List.set_cons_succ]
    have hbb := below_on hb_w0 ((Below.refl _ w0).alloc (Nat.le_refl _) (.cells #[.int .i64 0, .int .i64 0, .int .i64 0, .bool false, .int .i64 0] 32))
    have hV := MvAt.new w0 0 0 0 0 false
    obtain ⟨w0v, hw0v⟩ : ∃ v, v = w0.alloc (.cells #[.int .i64 0, .int .i64 0, .int .i64 0, .bool false, .int .i64 0] 32) := ⟨_, rfl⟩
    rw [← hw0v] at hbb hV ⊢
    clear hw0v
    have lt_P := P.out.lt
    have gg := below_on D.out hb_w0
    have D := Lib.hid (below_on D.out hbb)
    have P := Lib.hid (P.out.below hbb P.out.lt)
    obtain ⟨b_V, hbf⟩ : ∃ b, b = w0.heap.size := ⟨_, rfl⟩
    rw [← hbf] at hV ⊢
    have n_P_V := Lib.hid (show b_P ≠ b_V by have := hb_w0.size; omega)
    clear lt_P
    have g_V_D := Lib.hid (show w1.heap.size ≤ b_V by have := gg.size; omega)
    have V := Lib.hid hV
    clear hV hbf hbb hb_w0 gg
    refine wpPath_store rfl fun w0s hb_s => ?_
    have D := Lib.hid (below_on D.out hb_s)
    have P := Lib.hid (P.out.below hb_s P.out.lt)
    have V := Lib.hid (V.out.below hb_s V.out.lt)
    refine ⟨_, rfl, run_store_mv V.out, ?_⟩
    simp only [opOf_succ, opOf_zero, Act.put, List.setIfInBounds_toArray, List.set_cons_zero, List.set_cons_succ]
    obtain ⟨w0p, hw0p⟩ : ∃ w0p, w0p = put5 w0s b_V (i : Int) (j : Int) 1 false (-1) := ⟨_, rfl⟩
    rw [← hw0p]
    have D := Lib.hid (show Below w1.heap.size w1 w0p by rw [hw0p]; exact put5_below D.out g_V_D.out _ _ _ _ _)
    have P := Lib.hid (show PosAt w0p b_P (i : Int) (m : Int) by rw [hw0p]; exact P.out.other5 (n_P_V.out))
    have V := Lib.hid (show MvAt w0p b_V (i : Int) (j : Int) 1 false (-1) by rw [hw0p]; exact V.out.put _ _ _ _ _)
    clear hw0p hb_s
    refine wpPath_free (v := .bool true) rfl rfl (fun _ => rfl) ?_
    simp only [opOf_succ, opOf_zero, Act.put, List.setIfInBounds_toArray, List.set_cons_zero, List.set_cons_succ]
    refine wpPath_end fun x3 hb_e => ?_
    have D := Lib.hid (below_on D.out hb_e)
    have P := Lib.hid (P.out.below hb_e P.out.lt)
    have V := Lib.hid (V.out.below hb_e V.out.lt)
    clear hb_e
    have c_P := P.out
    have P0 := c_P.c0
    have P1 := c_P.c1
    clear c_P
    have c_V := V.out
    have V0 := c_V.c0
    have V1 := c_V.c1
    have V2 := c_V.c2
    have V3 := c_V.c3
    have V4 := c_V.c4
    clear c_V
    have he := fun W => eq_pos i m i m W
    simp only [decide_true, Bool.and_self] at he
    go_wp2_with fail
    have F_P0 := fun (C : World → Prop) (hC : Grows x3 C) (y : In C) => hC.cell P0 y
    have F_P1 := fun (C : World → Prop) (hC : Grows x3 C) (y : In C) => hC.cell P1 y
    have F_V0 := fun (C : World → Prop) (hC : Grows x3 C) (y : In C) => hC.cell V0 y
    have F_V1 := fun (C : World → Prop) (hC : Grows x3 C) (y : In C) => hC.cell V1 y
    have F_V2 := fun (C : World → Prop) (hC : Grows x3 C) (y : In C) => hC.cell V2 y
    have F_V3 := fun (C : World → Prop) (hC : Grows x3 C) (y : In C) => hC.cell V3 y
    have F_V4 := fun (C : World → Prop) (hC : Grows x3 C) (y : In C) => hC.cell V4 y
    clear P0 P1 V0 V1 V2 V3 V4
    refine wp_region_seg [0, 1, 2, 3, 4, 5, 6, 7, 8, 9, 10] [(11, 2), (12, 1), (13, 3), (14, 2)] (by kernel_rfl) (by kernel_rfl) 81 rfl (by kernel_rfl) ?_
    simp only [List.map_cons, List.map_nil, opOf_succ, opOf_zero]
    apply Exists.intro
    refine ⟨fun C hC => ?_, ?_⟩
    · haveI hI := hC.one
      have f_P0 := F_P0 C hC
      have f_P1 := F_P1 C hC
      have f_V0 := F_V0 C hC
      have f_V1 := F_V1 C hC
      have f_V2 := F_V2 C hC
      have f_V3 := F_V3 C hC
      have f_V4 := F_V4 C hC
      have g2 := fun y : In C => k2 y.W (below_on D.out (hC.below _ y.isIn))
      repeat (go_big_quiet_step (first | (go_at_call 25; exact Calls.in_of hC (g2 _))))
      exact wpQuiet_nil rfl
    clear F_P0 F_P1 F_V0 F_V1 F_V2 F_V3 F_V4 k2
    refine wpPath_free (v := .bool true) rfl rfl (fun W => run_extract _ _ W) ?_
    simp only [opOf_succ, opOf_zero, Act.put, List.setIfInBounds_toArray, List.set_cons_zero, List.set_cons_succ]
    refine wpPath_make rfl fun w4 hb_w4 => ⟨_, _, rfl, run_mv w4, (Below.refl _ w4).alloc (Nat.le_refl _) _, ?_⟩
    simp only [opOf_succ, opOf_zero, Act.put, List.setIfInBounds_toArray, List.set_cons_zero, List.set_cons_succ]
    have hbb := below_on hb_w4 ((Below.refl _ w4).alloc (Nat.le_refl _) (.cells #[.int .i64 0, .int .i64 0, .int .i64 0, .bool false, .int .i64 0] 32))
    have hV := MvAt.new w4 0 0 0 0 false
    obtain ⟨w4v, hw4v⟩ : ∃ v, v = w4.alloc (.cells #[.int .i64 0, .int .i64 0, .int .i64 0, .bool false, .int .i64 0] 32) := ⟨_, rfl⟩
    rw [← hw4v] at hbb hV ⊢
    clear hw4v
    have lt_P := P.out.lt
    have lt_V := V.out.lt
    have gg := below_on D.out hb_w4
    have D := Lib.hid (below_on D.out hbb)
    have P := Lib.hid (P.out.below hbb P.out.lt)
    have V := Lib.hid (V.out.below hbb V.out.lt)
    obtain ⟨b_U, hbf⟩ : ∃ b, b = w4.heap.size := ⟨_, rfl⟩
    rw [← hbf] at hV ⊢
    have n_P_U := Lib.hid (show b_P ≠ b_U by have := hb_w4.size; omega)
    clear lt_P
    have n_V_U := Lib.hid (show b_V ≠ b_U by have := hb_w4.size; omega)
    clear lt_V
    have g_U_D := Lib.hid (show w1.heap.size ≤ b_U by have := gg.size; omega)
    have U := Lib.hid hV
    clear hV hbf hbb hb_w4 gg
    refine wpPath_store rfl fun w4s hb_s => ?_
    have D := Lib.hid (below_on D.out hb_s)
    have P := Lib.hid (P.out.below hb_s P.out.lt)
    have V := Lib.hid (V.out.below hb_s V.out.lt)
    have U := Lib.hid (U.out.below hb_s U.out.lt)
    refine ⟨_, rfl, run_store_mv U.out, ?_⟩
    simp only [opOf_succ, opOf_zero, Act.put, List.setIfInBounds_toArray, List.set_cons_zero, List.set_cons_succ]
    obtain ⟨w4p, hw4p⟩ : ∃ w4p, w4p = put5 w4s b_U (i : Int) (m : Int) 0 false (-1) := ⟨_, rfl⟩
    rw [← hw4p]
    have D := Lib.hid (show Below w1.heap.size w1 w4p by rw [hw4p]; exact put5_below D.out g_U_D.out _ _ _ _ _)
    have P := Lib.hid (show PosAt w4p b_P (i : Int) (m : Int) by rw [hw4p]; exact P.out.other5 (n_P_U.out))
    have V := Lib.hid (show MvAt w4p b_V (i : Int) (j : Int) 1 false (-1) by rw [hw4p]; exact V.out.other5 (n_V_U.out))
    have U := Lib.hid (show MvAt w4p b_U (i : Int) (m : Int) 0 false (-1) by rw [hw4p]; exact U.out.put _ _ _ _ _)
    clear hw4p hb_s
    refine wpPath_free (v := .bool true) rfl rfl (fun _ => rfl) ?_
    simp only [opOf_succ, opOf_zero, Act.put, List.setIfInBounds_toArray, List.set_cons_zero, List.set_cons_succ]
    refine wpPath_end fun x5 hb_e => ?_
    have D := Lib.hid (below_on D.out hb_e)
    have P := Lib.hid (P.out.below hb_e P.out.lt)
    have V := Lib.hid (V.out.below hb_e V.out.lt)
    have U := Lib.hid (U.out.below hb_e U.out.lt)
    clear hb_e
    have c_P := P.out
    have P0 := c_P.c0
    have P1 := c_P.c1
    clear c_P
    have c_V := V.out
    have V0 := c_V.c0
    have V1 := c_V.c1
    have V2 := c_V.c2
    have V3 := c_V.c3
    have V4 := c_V.c4
    clear c_V
    have c_U := U.out
    have U0 := c_U.c0
    have U1 := c_U.c1
    have U2 := c_U.c2
    have U3 := c_U.c3
    have U4 := c_U.c4
    clear c_U
    go_wp2
    go_ret
    exact ⟨rfl, below_on HB1.out D.out⟩
end Go.Proofs.Ytaekgempoaoioaa.HBa
