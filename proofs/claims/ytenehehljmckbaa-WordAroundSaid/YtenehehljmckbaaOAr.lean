/-
  The law WordAround, walked.
-/
import Derived.Test.YtenehehljmckbaaOKn
set_option linter.unusedVariables false
set_option linter.unusedSimpArgs false
set_option maxRecDepth 100000
namespace Go.Proofs.Ytenehehljmckbaa.OAr
open Go Go.RowKit Go.Proofs.Ytenehehljmckbaa.Vk Go.Proofs.Ytenehehljmckbaa.Str Go.Proofs.Ytenehehljmckbaa.Ln Go.Proofs.Ytenehehljmckbaa.Cl Go.Proofs.Ytenehehljmckbaa.Mv Go.Proofs.Ytenehehljmckbaa.Wo
attribute [local go_sem] Oper.semAt_some
set_option maxHeartbeats 8000000

theorem neq_pos (a b c d : Int) (w : World) : (binOp .neq 36 (.agg #[.int .i64 a, .int .i64 b]) (.agg #[.int .i64 c, .int .i64 d])).run Try.prog w = .ok (.bool (!(decide (a = c) && decide (b = d)))) w := by
  have h := Mv.eq_pos a b c d w
  rw [run_eql_struct] at h
  rw [run_neq_struct]
  have hS : Try.prog.underlying 36 = some (.struct (Try.prog.fieldsOf 36)) := by kernel_rfl
  have hp : Try.prog.stoodInHeld 36 = false := by kernel_rfl
  clear h
  rw [show (10000 : Nat) = 9999 + 1 from rfl, run_equalIn_agg w 9999 36 _ _ hS hp]
  simp only [Program.fieldsOf, Try.underlying36]
  go_simp
  by_cases h1 : a = c <;> by_cases h2 : b = d <;> simp [h1, h2]
section
variable {s : ByteArray} {b : Bool} {n K : Nat} {l : List RN}
theorem getD_at {k : Nat} (h : k < l.length) : l.getD k (0, 0) = l[k] := by rw [List.getD_eq_getElem?_getD, List.getElem?_eq_getElem h]; rfl
theorem blank_none (hk : K + 1 = l.length) (hb : bb s b l K = true) : arL s b l K 1 = none := by
  unfold arL
  rw [if_pos (by omega), hb, gr_some gr_zero]
  unfold stp pb
  simp only [if_true]
  rw [if_pos hb, if_pos hk]
  rfl
theorem blank_some (hg : Rg s b n l) (hk : K + 1 < l.length) (hb : bb s b l K = true) : arL s b l K 1 = some ((l[K]'(by omega)).1, (l[K + 1]'hk).2) := by
  unfold arL
  rw [if_pos (by omega), hb, gr_some gr_zero]
  unfold stp pb
  simp only [if_true]
  rw [if_pos hb, if_neg (by omega), Option.map_some, frm_blank hg hb, getD_at (by omega), show K + 1 + 1 - 1 = K + 1 by omega, getD_at hk]
theorem word_some (hg : Rg s b n l) (hk : K < l.length) (hb : bb s b l K = false) : ∃ Y1 Y2 : Nat, arL s b l K 1 = some (Y1, Y2) ∧ Y1 ≤ (l[K]'hk).1 ∧ (l[K]'hk).2 ≤ Y2 ∧ Y2 ≤ n ∧ (Y1 = (l[K]'hk).1 ∨ Y2 = (l[K]'hk).2) ∧
    (∀ j, Y1 ≤ j → j < (l[K]'hk).1 → kl s true j = 0) ∧ (∀ j, (l[K]'hk).2 ≤ j → j < Y2 → kl s true j = 0) := by
  have h0 : arL s b l K 1 = some ((l.getD (frm s b l K (pb s b l (K + 1))) (0, 0)).1, (l.getD (pb s b l (K + 1) - 1) (0, 0)).2) := by
    unfold arL
    rw [if_pos hk, hb, gr_some gr_zero]
    unfold stp
    simp only [Bool.false_eq_true, if_false]
    rw [if_neg (by omega), Option.map_some]
  have hle := hg.le K hk
  by_cases h1 : bb s b l (K + 1) = true
  · have hk1 : K + 1 < l.length := by
      rcases Nat.lt_or_ge (K + 1) l.length with h | h
      · exact h
      · rw [bb_out h] at h1; cases h1
    have hp : pb s b l (K + 1) = K + 2 := by unfold pb; rw [if_pos h1]
    have hf : frm s b l K (K + 2) = K := by unfold frm; rw [if_neg]; rintro ⟨h, _⟩; rw [show K + 2 - 1 = K + 1 by omega, h1] at h; cases h
    rw [hp, hf, show K + 2 - 1 = K + 1 by omega, getD_at hk, getD_at hk1] at h0
    have hn := hg.next K hk1
    have hne := hg.ne (K + 1) hk1
    refine ⟨_, _, h0, Nat.le_refl _, by omega, hg.le _ hk1, .inl rfl, fun j g1 g2 => by omega, fun j g1 g2 => ?_⟩
    rw [← kl_z s b j, hg.same (K + 1) hk1 j (by omega) g2]
    rw [bb_at hk1] at h1
    exact of_decide_eq_true h1
  · have hp : pb s b l (K + 1) = K + 1 := by unfold pb; rw [if_neg h1]
    rw [hp, Nat.add_sub_cancel, getD_at hk] at h0
    by_cases h2 : 0 < K ∧ bb s b l (K - 1) = true
    · have hf : frm s b l K (K + 1) = K - 1 := by unfold frm; rw [if_pos]; exact ⟨by rw [Nat.add_sub_cancel]; exact hb, h2.1, h2.2⟩
      have hk1 : K - 1 < l.length := by omega
      rw [hf, getD_at hk1] at h0
      have hn := hg.next (K - 1) (by omega)
      have hn2 : (l[K]'hk).1 = (l[K - 1]'hk1).2 := by
        have e : K - 1 + 1 = K := by omega
        simp only [e] at hn
        exact hn
      have hne := hg.ne (K - 1) hk1
      refine ⟨_, _, h0, by omega, Nat.le_refl _, hle, .inr rfl, fun j g1 g2 => ?_, fun j g1 g2 => by omega⟩
      rw [← kl_z s b j, hg.same (K - 1) hk1 j g1 (by omega)]
      have h3 := h2.2
      rw [bb_at hk1] at h3
      exact of_decide_eq_true h3
    · have hf : frm s b l K (K + 1) = K := by unfold frm; rw [if_neg]; rintro ⟨_, h⟩; exact h2 h
      rw [hf, getD_at hk] at h0
      exact ⟨_, _, h0, Nat.le_refl _, Nat.le_refl _, hle, .inl rfl, fun j g1 g2 => by omega, fun j g1 g2 => by omega⟩
end

theorem walk (a : Option Addr) (n c' : Nat) (ls : List ByteArray) (x y : Int) (past : Bool) (w : World) (h : Ss w a n c' ls) (hs : ∀ s ∈ ls, s.size ≤ 140737488355328) (hx : (Lit.int .u16 x).wf = true) (hy : (Lit.int .u16 y).wf = true) :
    Calls Try.prog 6 #[.slice a n c', .int .u16 x, .int .u16 y, .bool past] w fun e w' => e = .returned (.bool true) ∧ Below w.heap.size w w' := by
  have hk := known_any w
  have x2 : 0 ≤ x ∧ x ≤ 65535 := by simpa [Lit.wf, IntKind.min, IntKind.max, IntKind.signed, IntKind.bits] using hx
  have y2 : 0 ≤ y ∧ y ≤ 65535 := by simpa [Lit.wf, IntKind.min, IntKind.max, IntKind.signed, IntKind.bits] using hy
  go_enter Try.func6, Try.ntmps6
  go_wp2_with fail
  refine hk.mono ?_
  rintro e w1 ⟨rfl, hb1⟩
  have hs1 := SrcV.below h hb1
  have htx := text_any a n c' ls w1 hs1 hs
  have HS1 := Lib.hid hs1
  have HB1 := Lib.hid hb1
  clear hk hb1 h hs1
  go_wp2_with fail
  refine htx.mono ?_
  rintro e w' ⟨qq, rfl, rfl, hq⟩
  clear htx
  cases qq
  · clear hq
    go_wp2
    go_ret
    exact ⟨rfl, HB1.out⟩
  obtain ⟨hn0, hn40, hz, _⟩ := hq rfl
  have hsm : ∀ s ∈ ls, s.size ≤ 1000000 := fun s hh => by have := tz_mem ls s hh; omega
  clear hq
  have hse := seat_any a n c' ls x y w1 HS1.out hn0 hs x2 y2
  go_wp2_with fail
  refine hse.mono ?_
  rintro e w2 ⟨⟨i, m, rfl, hi, hm⟩, hb⟩
  have D := Lib.hid hb
  clear hse hb
  go_upto_region 6 with fail
  obtain ⟨x3, hx3⟩ : ∃ x3, x3 = w2.alloc (.cells #[.int .i64 (i : Int), .int .i64 (m : Int)] 36) := ⟨_, rfl⟩
  have hA : Below w2.heap.size w2 x3 := by rw [hx3]; exact (Below.refl _ w2).alloc (Nat.le_refl _) _
  have hV := PosAt.new w2 (i : Int) (m : Int)
  rw [← hx3] at hV ⊢
  have gg_D := D.out.size
  have D := Lib.hid (below_on D.out hA)
  obtain ⟨b_P, hbf⟩ : ∃ b, b = w2.heap.size := ⟨_, rfl⟩
  rw [← hbf] at hV ⊢
  have g_P_D := Lib.hid (show w1.heap.size ≤ b_P by rw [hbf]; exact gg_D)
  clear gg_D
  have P := Lib.hid hV
  clear hV hA hx3 hbf
  have c_P := P.out
  have P0 := c_P.c0
  have P1 := c_P.c1
  clear c_P
  have hlen := Ss.length HS1.out
  have hia := fun W (hW : Below w1.heap.size w1 W) => inner_any a n c' ls i m 1 past W (SrcV.below HS1.out hW) hsm
  have har := fun W (hW : Below w1.heap.size w1 W) => around_any a n c' ls i m 1 past W (SrcV.below HS1.out hW) hsm
  simp only [Int.toNat_natCast] at hia har
  by_cases hms : m < (lineAt ls i).size
  rotate_left
  · have hin : innA ls past i m 1 = none := by
      by_cases hO : On ls i m ∧ (1 : Int) ≤ 1
      · have hz0 : (lineAt ls i).size = 0 := by have := hO.1.2.2.2; rw [Int.toNat_natCast] at this; omega
        have := innA_yes (b := past) hO.1 (Nat.le_refl 1)
        rw [show ((1 : Nat) : Int) = 1 from rfl] at this
        rw [this]
        have hr : rs (lineAt ls i) past = [] := by unfold rs; rw [hz0]; rfl
        rw [hr]; rfl
      · exact innA_no hO
    have har0 : arA ls past i m 1 = none := by
      by_cases hO : On ls i m ∧ (1 : Int) ≤ 1
      · have hz0 : (lineAt ls i).size = 0 := by have := hO.1.2.2.2; rw [Int.toNat_natCast] at this; omega
        have := arA_yes (b := past) hO.1 (Nat.le_refl 1)
        rw [show ((1 : Nat) : Int) = 1 from rfl] at this
        rw [this]
        have hr : rs (lineAt ls i) past = [] := by unfold rs; rw [hz0]; rfl
        rw [hr]; rfl
      · exact arA_no hO
    simp only [hin, anV] at hia
    simp only [har0, anV] at har
    clear hin har0 hms hm hi hlen
    go_wp2_with fail
    refine (hia _ D.out).mono ?_
    rintro e w4 ⟨rfl, hb⟩
    clear P0 P1
    have D := Lib.hid (below_on D.out hb)
    have P := Lib.hid (P.out.below hb P.out.lt)
    clear hb hia
    go_upto_region 7 with fail
    obtain ⟨x5, hx5⟩ : ∃ x5, x5 = w4.alloc (.cells #[.int .i64 0, .int .i64 0, .int .i64 0, .int .i64 0, .int .i64 0] 43) := ⟨_, rfl⟩
    have hA : Below w4.heap.size w4 x5 := by rw [hx5]; exact (Below.refl _ w4).alloc (Nat.le_refl _) _
    have hV := RgAt.new w4 0 0 0 0 0
    rw [← hx5] at hV ⊢
    have lt_P := P.out.lt
    have gg_D := D.out.size
    have D := Lib.hid (below_on D.out hA)
    have P := Lib.hid (P.out.below hA P.out.lt)
    obtain ⟨b_V, hbf⟩ : ∃ b, b = w4.heap.size := ⟨_, rfl⟩
    rw [← hbf] at hV ⊢
    have n_P_V := Lib.hid (show b_P ≠ b_V by omega)
    clear lt_P
    have g_V_D := Lib.hid (show w1.heap.size ≤ b_V by rw [hbf]; exact gg_D)
    clear gg_D
    have V := Lib.hid hV
    clear hV hA hx5 hbf
    have c_P := P.out
    have P0 := c_P.c0
    have P1 := c_P.c1
    clear c_P
    have c_V := V.out
    have V0 := c_V.c0
    have V1 := c_V.c1
    have V2 := c_V.c2
    have V3 := c_V.c3
    have V4 := c_V.c4
    clear c_V
    go_wp2_with fail
    refine (har _ D.out).mono ?_
    rintro e w6 ⟨rfl, hb⟩
    clear P0 P1 V0 V1 V2 V3 V4
    have D := Lib.hid (below_on D.out hb)
    have P := Lib.hid (P.out.below hb P.out.lt)
    have V := Lib.hid (V.out.below hb V.out.lt)
    clear hb har
    go_upto_region 8 with fail
    obtain ⟨x7, hx7⟩ : ∃ x7, x7 = w6.alloc (.cells #[.int .i64 0, .int .i64 0, .int .i64 0, .int .i64 0, .int .i64 0] 43) := ⟨_, rfl⟩
    have hA : Below w6.heap.size w6 x7 := by rw [hx7]; exact (Below.refl _ w6).alloc (Nat.le_refl _) _
    have hV := RgAt.new w6 0 0 0 0 0
    rw [← hx7] at hV ⊢
    have lt_P := P.out.lt
    have lt_V := V.out.lt
    have gg_D := D.out.size
    have D := Lib.hid (below_on D.out hA)
    have P := Lib.hid (P.out.below hA P.out.lt)
    have V := Lib.hid (V.out.below hA V.out.lt)
    obtain ⟨b_U, hbf⟩ : ∃ b, b = w6.heap.size := ⟨_, rfl⟩
    rw [← hbf] at hV ⊢
    have n_P_U := Lib.hid (show b_P ≠ b_U by omega)
    clear lt_P
    have n_V_U := Lib.hid (show b_V ≠ b_U by omega)
    clear lt_V
    have g_U_D := Lib.hid (show w1.heap.size ≤ b_U by rw [hbf]; exact gg_D)
    clear gg_D
    have U := Lib.hid hV
    clear hV hA hx7 hbf
    have c_P := P.out
    have P0 := c_P.c0
    have P1 := c_P.c1
    clear c_P
    have c_V := V.out
    have V0 := c_V.c0
    have V1 := c_V.c1
    have V2 := c_V.c2
    have V3 := c_V.c3
    have V4 := c_V.c4
    clear c_V
    have c_U := U.out
    have U0 := c_U.c0
    have U1 := c_U.c1
    have U2 := c_U.c2
    have U3 := c_U.c3
    have U4 := c_U.c4
    clear c_U
    go_wp2
    go_ret
    exact ⟨rfl, below_on HB1.out D.out⟩
  have hO : On ls i m := On.of (by omega) (.inl hms)
  have hin := innA_yes (b := past) hO (Nat.le_refl 1)
  have har0 := arA_yes (b := past) hO (Nat.le_refl 1)
  rw [show ((1 : Nat) : Int) = 1 from rfl] at hin har0
  obtain ⟨bs, os, ha, hcell, hnc, _⟩ := Ss.read HS1.out i (by omega)
  rw [← lineAt_get (by omega)] at hcell
  subst ha
  have hstz : (lineAt ls i).size ≤ 1000000 := by rw [lineAt_get (by omega)]; exact hsm _ (List.getElem_mem _)
  obtain ⟨st, hst⟩ : ∃ st, st = lineAt ls i := ⟨_, rfl⟩
  rw [← hst] at hcell hms hin har0 hstz
  have hrg := rs_rg (s := st) (b := past)
  obtain ⟨L, hL⟩ : ∃ L, L = rs st past := ⟨_, rfl⟩
  rw [← hL] at hrg hin har0
  obtain ⟨K, hAt⟩ := hrg.at hms
  rw [hAt.cn hrg] at hin har0
  have hKl := hAt.lt
  have hin2 : innL L K 1 = some ((L[K]'hKl).1, (L[K]'hKl).2) := by
    unfold innL
    rw [if_pos (by omega), show K + 1 - 1 = K by omega, getD_at hKl]
  rw [hin2] at hin
  have hsame := hrg.same K hKl m hAt.fst hAt.snd
  have hX2 := hrg.le K hKl
  have hcl : ∀ W, Calls Try.prog 19 #[.int .u8 (st[m]'hms).toNat, .bool true] W fun e w' => e = .returned (.int .i64 (kl st true m)) ∧ W = w' := fun W => of5_kl st true m hms W
  have HC := Lib.hid hcell
  have b1 : (i : Int) < (n : Int) := by omega
  have b2 : (m : Int) < (st.size : Int) := by omega
  have hxne := hrg.ne K hKl
  clear hst hcell hnc hlen hm hi hO hin2 hAt hL
  cases hbk : bb st past L K
  rotate_left
  · have hbk2 := hbk
    rw [bb_at hKl] at hbk2
    have hk0 : kl st true m = 0 := by rw [← kl_z st past m, hsame]; exact of_decide_eq_true hbk2
    rw [hk0] at hcl
    have hbz : ((0 : Int) == 0) = true := rfl
    clear hbk2 hsame hk0
    by_cases hKe : K + 1 = L.length
    · rw [blank_none hKe hbk] at har0
      have hXs : (L[K]'hKl).2 = st.size := hrg.last K hKe
      simp only [hin, anV] at hia
      simp only [har0, anV] at har
      obtain ⟨X1, hX1⟩ : ∃ X, X = (L[K]'hKl).1 := ⟨_, rfl⟩
      rw [hXs] at hia
      rw [← hX1] at hia
      have d0 : decide (st.size < st.size) = false := decide_eq_false (by omega)
      have d1 : decide ((st.size : Int) < (st.size : Int)) = false := decide_eq_false (by omega)
      clear hin har0 hXs hKe hbk hrg hX2 hX1 hxne
      go_wp2_with fail
      refine (hia _ D.out).mono ?_
      rintro e w4 ⟨rfl, hb⟩
      clear P0 P1
      have D := Lib.hid (below_on D.out hb)
      have P := Lib.hid (P.out.below hb P.out.lt)
      clear hb hia
      go_upto_region 7 with fail
      obtain ⟨x5, hx5⟩ : ∃ x5, x5 = w4.alloc (.cells #[.int .i64 0, .int .i64 (i : Int), .int .i64 (X1 : Int), .int .i64 (i : Int), .int .i64 (st.size : Int)] 43) := ⟨_, rfl⟩
      have hA : Below w4.heap.size w4 x5 := by rw [hx5]; exact (Below.refl _ w4).alloc (Nat.le_refl _) _
      have hV := RgAt.new w4 0 (i : Int) (X1 : Int) (i : Int) (st.size : Int)
      rw [← hx5] at hV ⊢
      have lt_P := P.out.lt
      have gg_D := D.out.size
      have D := Lib.hid (below_on D.out hA)
      have P := Lib.hid (P.out.below hA P.out.lt)
      obtain ⟨b_V, hbf⟩ : ∃ b, b = w4.heap.size := ⟨_, rfl⟩
      rw [← hbf] at hV ⊢
      have n_P_V := Lib.hid (show b_P ≠ b_V by omega)
      clear lt_P
      have g_V_D := Lib.hid (show w1.heap.size ≤ b_V by rw [hbf]; exact gg_D)
      clear gg_D
      have V := Lib.hid hV
      clear hV hA hx5 hbf
      have c_P := P.out
      have P0 := c_P.c0
      have P1 := c_P.c1
      clear c_P
      have c_V := V.out
      have V0 := c_V.c0
      have V1 := c_V.c1
      have V2 := c_V.c2
      have V3 := c_V.c3
      have V4 := c_V.c4
      clear c_V
      go_wp2_with fail
      refine (har _ D.out).mono ?_
      rintro e w6 ⟨rfl, hb⟩
      clear P0 P1 V0 V1 V2 V3 V4
      have D := Lib.hid (below_on D.out hb)
      have P := Lib.hid (P.out.below hb P.out.lt)
      have V := Lib.hid (V.out.below hb V.out.lt)
      clear hb har
      go_upto_region 8 with fail
      obtain ⟨x7, hx7⟩ : ∃ x7, x7 = w6.alloc (.cells #[.int .i64 0, .int .i64 0, .int .i64 0, .int .i64 0, .int .i64 0] 43) := ⟨_, rfl⟩
      have hA : Below w6.heap.size w6 x7 := by rw [hx7]; exact (Below.refl _ w6).alloc (Nat.le_refl _) _
      have hV := RgAt.new w6 0 0 0 0 0
      rw [← hx7] at hV ⊢
      have lt_P := P.out.lt
      have lt_V := V.out.lt
      have gg_D := D.out.size
      have D := Lib.hid (below_on D.out hA)
      have P := Lib.hid (P.out.below hA P.out.lt)
      have V := Lib.hid (V.out.below hA V.out.lt)
      obtain ⟨b_U, hbf⟩ : ∃ b, b = w6.heap.size := ⟨_, rfl⟩
      rw [← hbf] at hV ⊢
      have n_P_U := Lib.hid (show b_P ≠ b_U by omega)
      clear lt_P
      have n_V_U := Lib.hid (show b_V ≠ b_U by omega)
      clear lt_V
      have g_U_D := Lib.hid (show w1.heap.size ≤ b_U by rw [hbf]; exact gg_D)
      clear gg_D
      have U := Lib.hid hV
      clear hV hA hx7 hbf
      have c_P := P.out
      have P0 := c_P.c0
      have P1 := c_P.c1
      clear c_P
      have c_V := V.out
      have V0 := c_V.c0
      have V1 := c_V.c1
      have V2 := c_V.c2
      have V3 := c_V.c3
      have V4 := c_V.c4
      clear c_V
      have c_U := U.out
      have U0 := c_U.c0
      have U1 := c_U.c1
      have U2 := c_U.c2
      have U3 := c_U.c3
      have U4 := c_U.c4
      clear c_U
      have cx := cell_later D.out HC.out
      go_wp2_with fail
      refine (hcl _).mono ?_
      rintro e w' ⟨rfl, rfl⟩
      clear hcl
      go_wp2
      go_ret
      exact ⟨rfl, below_on HB1.out D.out⟩
    · have hK1 : K + 1 < L.length := by omega
      rw [blank_some hrg hK1 hbk] at har0
      have hnx := hrg.next K hK1
      have hne := hrg.ne (K + 1) hK1
      have hle := hrg.le (K + 1) hK1
      simp only [hin, anV] at hia
      simp only [har0, anV] at har
      obtain ⟨X1, hX1⟩ : ∃ X, X = (L[K]'hKl).1 := ⟨_, rfl⟩
      obtain ⟨X2, hX2'⟩ : ∃ X, X = (L[K]'hKl).2 := ⟨_, rfl⟩
      obtain ⟨Y2, hY2⟩ : ∃ X, X = (L[K + 1]'hK1).2 := ⟨_, rfl⟩
      rw [← hX2'] at hia hnx hX2
      rw [← hX1] at hia har
      rw [← hY2] at har hne hle
      rw [hnx] at hne
      have d0 : decide (X2 < st.size) = true := decide_eq_true (by omega)
      have d1 : decide ((X2 : Int) < (st.size : Int)) = true := decide_eq_true (by omega)
      have he := fun W => Mv.eq_pos (i : Int) (X1 : Int) (i : Int) (X1 : Int) W
      simp only [decide_true, Bool.and_self] at he
      have hls := fun W => So.less5_any (i : Int) (X2 : Int) (i : Int) (Y2 : Int) W
      rw [show So.lt (i : Int) (X2 : Int) (i : Int) (Y2 : Int) = true by unfold So.lt; rw [decide_eq_true_iff]; omega] at hls
      clear hin har0 hKe hbk hrg hX2 hX1 hX2' hY2 hnx hne hle hK1 hxne
      go_wp2_with fail
      refine (hia _ D.out).mono ?_
      rintro e w4 ⟨rfl, hb⟩
      clear P0 P1
      have D := Lib.hid (below_on D.out hb)
      have P := Lib.hid (P.out.below hb P.out.lt)
      clear hb hia
      go_upto_region 7 with fail
      obtain ⟨x5, hx5⟩ : ∃ x5, x5 = w4.alloc (.cells #[.int .i64 0, .int .i64 (i : Int), .int .i64 (X1 : Int), .int .i64 (i : Int), .int .i64 (X2 : Int)] 43) := ⟨_, rfl⟩
      have hA : Below w4.heap.size w4 x5 := by rw [hx5]; exact (Below.refl _ w4).alloc (Nat.le_refl _) _
      have hV := RgAt.new w4 0 (i : Int) (X1 : Int) (i : Int) (X2 : Int)
      rw [← hx5] at hV ⊢
      have lt_P := P.out.lt
      have gg_D := D.out.size
      have D := Lib.hid (below_on D.out hA)
      have P := Lib.hid (P.out.below hA P.out.lt)
      obtain ⟨b_V, hbf⟩ : ∃ b, b = w4.heap.size := ⟨_, rfl⟩
      rw [← hbf] at hV ⊢
      have n_P_V := Lib.hid (show b_P ≠ b_V by omega)
      clear lt_P
      have g_V_D := Lib.hid (show w1.heap.size ≤ b_V by rw [hbf]; exact gg_D)
      clear gg_D
      have V := Lib.hid hV
      clear hV hA hx5 hbf
      have c_P := P.out
      have P0 := c_P.c0
      have P1 := c_P.c1
      clear c_P
      have c_V := V.out
      have V0 := c_V.c0
      have V1 := c_V.c1
      have V2 := c_V.c2
      have V3 := c_V.c3
      have V4 := c_V.c4
      clear c_V
      go_wp2_with fail
      refine (har _ D.out).mono ?_
      rintro e w6 ⟨rfl, hb⟩
      clear P0 P1 V0 V1 V2 V3 V4
      have D := Lib.hid (below_on D.out hb)
      have P := Lib.hid (P.out.below hb P.out.lt)
      have V := Lib.hid (V.out.below hb V.out.lt)
      clear hb har
      go_upto_region 8 with fail
      obtain ⟨x7, hx7⟩ : ∃ x7, x7 = w6.alloc (.cells #[.int .i64 0, .int .i64 (i : Int), .int .i64 (X1 : Int), .int .i64 (i : Int), .int .i64 (Y2 : Int)] 43) := ⟨_, rfl⟩
      have hA : Below w6.heap.size w6 x7 := by rw [hx7]; exact (Below.refl _ w6).alloc (Nat.le_refl _) _
      have hV := RgAt.new w6 0 (i : Int) (X1 : Int) (i : Int) (Y2 : Int)
      rw [← hx7] at hV ⊢
      have lt_P := P.out.lt
      have lt_V := V.out.lt
      have gg_D := D.out.size
      have D := Lib.hid (below_on D.out hA)
      have P := Lib.hid (P.out.below hA P.out.lt)
      have V := Lib.hid (V.out.below hA V.out.lt)
      obtain ⟨b_U, hbf⟩ : ∃ b, b = w6.heap.size := ⟨_, rfl⟩
      rw [← hbf] at hV ⊢
      have n_P_U := Lib.hid (show b_P ≠ b_U by omega)
      clear lt_P
      have n_V_U := Lib.hid (show b_V ≠ b_U by omega)
      clear lt_V
      have g_U_D := Lib.hid (show w1.heap.size ≤ b_U by rw [hbf]; exact gg_D)
      clear gg_D
      have U := Lib.hid hV
      clear hV hA hx7 hbf
      have c_P := P.out
      have P0 := c_P.c0
      have P1 := c_P.c1
      clear c_P
      have c_V := V.out
      have V0 := c_V.c0
      have V1 := c_V.c1
      have V2 := c_V.c2
      have V3 := c_V.c3
      have V4 := c_V.c4
      clear c_V
      have c_U := U.out
      have U0 := c_U.c0
      have U1 := c_U.c1
      have U2 := c_U.c2
      have U3 := c_U.c3
      have U4 := c_U.c4
      clear c_U
      have cx := cell_later D.out HC.out
      go_wp2_with fail
      refine (hcl _).mono ?_
      rintro e w' ⟨rfl, rfl⟩
      clear hcl
      go_wp2_with fail
      refine (hls _).mono ?_
      rintro e w8 ⟨rfl, hb⟩
      clear P0 P1 V0 V1 V2 V3 V4 U0 U1 U2 U3 U4
      have D := Lib.hid (below_on D.out hb)
      have P := Lib.hid (P.out.below hb P.out.lt)
      have V := Lib.hid (V.out.below hb V.out.lt)
      have U := Lib.hid (U.out.below hb U.out.lt)
      clear hb hls
      have c_P := P.out
      have P0 := c_P.c0
      have P1 := c_P.c1
      clear c_P
      have c_V := V.out
      have V0 := c_V.c0
      have V1 := c_V.c1
      have V2 := c_V.c2
      have V3 := c_V.c3
      have V4 := c_V.c4
      clear c_V
      have c_U := U.out
      have U0 := c_U.c0
      have U1 := c_U.c1
      have U2 := c_U.c2
      have U3 := c_U.c3
      have U4 := c_U.c4
      clear c_U
      go_wp2
      go_ret
      exact ⟨rfl, below_on HB1.out D.out⟩
  have hbk2 := hbk
  rw [bb_at hKl] at hbk2
  have hk0 : kl st true m ≠ 0 := by rw [Ne, ← kl_z st past m, hsame]; exact of_decide_eq_false hbk2
  have hk1 : (kl st true m == 0) = false := by rw [beq_eq_false_iff_ne]; exact hk0
  obtain ⟨Y1, Y2, hys, hy1, hy2, hyn, hyo, hya, hyb⟩ := word_some hrg hKl hbk
  rw [hys] at har0
  simp only [hin, anV] at hia
  simp only [har0, anV] at har
  generalize (L[K]'hKl).1 = X1 at *
  generalize (L[K]'hKl).2 = X2 at *
  have hl1 := fun W => So.less5_any (i : Int) (X1 : Int) (i : Int) (Y1 : Int) W
  rw [show So.lt (i : Int) (X1 : Int) (i : Int) (Y1 : Int) = false by unfold So.lt; rw [decide_eq_false_iff_not]; omega] at hl1
  have hl2 := fun W => So.less5_any (i : Int) (Y2 : Int) (i : Int) (X2 : Int) W
  rw [show So.lt (i : Int) (Y2 : Int) (i : Int) (X2 : Int) = false by unfold So.lt; rw [decide_eq_false_iff_not]; omega] at hl2
  have HY := Lib.hid (And.intro hy1 (And.intro hy2 (And.intro hyn (And.intro hya hyb))))
  have HH := Lib.hid (And.intro hX2 (And.intro hxne hstz))
  clear hbk2 hsame hk0 hbk hys hin har0 hrg hy1 hy2 hyn hya hyb hX2 hxne hstz
  go_wp2_with fail
  refine (hia _ D.out).mono ?_
  rintro e w4 ⟨rfl, hb⟩
  clear P0 P1
  have D := Lib.hid (below_on D.out hb)
  have P := Lib.hid (P.out.below hb P.out.lt)
  clear hb hia
  go_upto_region 7 with fail
  obtain ⟨x5, hx5⟩ : ∃ x5, x5 = w4.alloc (.cells #[.int .i64 0, .int .i64 (i : Int), .int .i64 (X1 : Int), .int .i64 (i : Int), .int .i64 (X2 : Int)] 43) := ⟨_, rfl⟩
  have hA : Below w4.heap.size w4 x5 := by rw [hx5]; exact (Below.refl _ w4).alloc (Nat.le_refl _) _
  have hV := RgAt.new w4 0 (i : Int) (X1 : Int) (i : Int) (X2 : Int)
  rw [← hx5] at hV ⊢
  have lt_P := P.out.lt
  have gg_D := D.out.size
  have D := Lib.hid (below_on D.out hA)
  have P := Lib.hid (P.out.below hA P.out.lt)
  obtain ⟨b_V, hbf⟩ : ∃ b, b = w4.heap.size := ⟨_, rfl⟩
  rw [← hbf] at hV ⊢
  have n_P_V := Lib.hid (show b_P ≠ b_V by omega)
  clear lt_P
  have g_V_D := Lib.hid (show w1.heap.size ≤ b_V by rw [hbf]; exact gg_D)
  clear gg_D
  have V := Lib.hid hV
  clear hV hA hx5 hbf
  have c_P := P.out
  have P0 := c_P.c0
  have P1 := c_P.c1
  clear c_P
  have c_V := V.out
  have V0 := c_V.c0
  have V1 := c_V.c1
  have V2 := c_V.c2
  have V3 := c_V.c3
  have V4 := c_V.c4
  clear c_V
  go_wp2_with fail
  refine (har _ D.out).mono ?_
  rintro e w6 ⟨rfl, hb⟩
  clear P0 P1 V0 V1 V2 V3 V4
  have D := Lib.hid (below_on D.out hb)
  have P := Lib.hid (P.out.below hb P.out.lt)
  have V := Lib.hid (V.out.below hb V.out.lt)
  clear hb har
  go_upto_region 8 with fail
  obtain ⟨x7, hx7⟩ : ∃ x7, x7 = w6.alloc (.cells #[.int .i64 0, .int .i64 (i : Int), .int .i64 (Y1 : Int), .int .i64 (i : Int), .int .i64 (Y2 : Int)] 43) := ⟨_, rfl⟩
  have hA : Below w6.heap.size w6 x7 := by rw [hx7]; exact (Below.refl _ w6).alloc (Nat.le_refl _) _
  have hV := RgAt.new w6 0 (i : Int) (Y1 : Int) (i : Int) (Y2 : Int)
  rw [← hx7] at hV ⊢
  have lt_P := P.out.lt
  have lt_V := V.out.lt
  have gg_D := D.out.size
  have D := Lib.hid (below_on D.out hA)
  have P := Lib.hid (P.out.below hA P.out.lt)
  have V := Lib.hid (V.out.below hA V.out.lt)
  obtain ⟨b_U, hbf⟩ : ∃ b, b = w6.heap.size := ⟨_, rfl⟩
  rw [← hbf] at hV ⊢
  have n_P_U := Lib.hid (show b_P ≠ b_U by omega)
  clear lt_P
  have n_V_U := Lib.hid (show b_V ≠ b_U by omega)
  clear lt_V
  have g_U_D := Lib.hid (show w1.heap.size ≤ b_U by rw [hbf]; exact gg_D)
  clear gg_D
  have U := Lib.hid hV
  clear hV hA hx7 hbf
  have c_P := P.out
  have P0 := c_P.c0
  have P1 := c_P.c1
  clear c_P
  have c_V := V.out
  have V0 := c_V.c0
  have V1 := c_V.c1
  have V2 := c_V.c2
  have V3 := c_V.c3
  have V4 := c_V.c4
  clear c_V
  have c_U := U.out
  have U0 := c_U.c0
  have U1 := c_U.c1
  have U2 := c_U.c2
  have U3 := c_U.c3
  have U4 := c_U.c4
  clear c_U
  have cx := cell_later D.out HC.out
  go_wp2_with fail
  refine (hcl _).mono ?_
  rintro e w' ⟨rfl, rfl⟩
  clear hcl
  go_wp2_with fail
  refine (hl1 _).mono ?_
  rintro e w8 ⟨rfl, hb⟩
  clear P0 P1 V0 V1 V2 V3 V4 U0 U1 U2 U3 U4
  have D := Lib.hid (below_on D.out hb)
  have P := Lib.hid (P.out.below hb P.out.lt)
  have V := Lib.hid (V.out.below hb V.out.lt)
  have U := Lib.hid (U.out.below hb U.out.lt)
  clear hb hl1
  have c_P := P.out
  have P0 := c_P.c0
  have P1 := c_P.c1
  clear c_P
  have c_V := V.out
  have V0 := c_V.c0
  have V1 := c_V.c1
  have V2 := c_V.c2
  have V3 := c_V.c3
  have V4 := c_V.c4
  clear c_V
  have c_U := U.out
  have U0 := c_U.c0
  have U1 := c_U.c1
  have U2 := c_U.c2
  have U3 := c_U.c3
  have U4 := c_U.c4
  clear c_U
  go_wp2_with fail
  refine (hl2 _).mono ?_
  rintro e w9 ⟨rfl, hb⟩
  clear P0 P1 V0 V1 V2 V3 V4 U0 U1 U2 U3 U4
  have D := Lib.hid (below_on D.out hb)
  have P := Lib.hid (P.out.below hb P.out.lt)
  have V := Lib.hid (V.out.below hb V.out.lt)
  have U := Lib.hid (U.out.below hb U.out.lt)
  clear hb hl2
  have c_P := P.out
  have P0 := c_P.c0
  have P1 := c_P.c1
  clear c_P
  have c_V := V.out
  have V0 := c_V.c0
  have V1 := c_V.c1
  have V2 := c_V.c2
  have V3 := c_V.c3
  have V4 := c_V.c4
  clear c_V
  have c_U := U.out
  have U0 := c_U.c0
  have U1 := c_U.c1
  have U2 := c_U.c2
  have U3 := c_U.c3
  have U4 := c_U.c4
  clear c_U
  by_cases hyx : Y1 = X1
  · have hnf2 : ∀ W : World, (binOp .neq 36 (.agg #[.int .i64 (i : Int), .int .i64 (Y1 : Int)]) (.agg #[.int .i64 (i : Int), .int .i64 (X1 : Int)])).run Try.prog W = .ok (.bool false) W := fun W => by
      rw [neq_pos, decide_eq_true (rfl : (i : Int) = i), decide_eq_true (show (Y1 : Int) = (X1 : Int) by omega)]; rfl
    clear hyo hyx
    go_wp2
    clear hk1
    go_loop [15] (fun u => ∃ j : Nat, u = .int .i64 j ∧ Hid (Y1 ≤ j ∧ j ≤ X1)) (fun u => X1 - (RowKit.intOf u).toNat)
    case atStart => exact ⟨Y1, rfl, Nat.le_refl _, HY.out.1⟩
    case round =>
      obtain ⟨j, rfl, hR⟩ := hrel
      have hjr := hR.out
      by_cases hj : j < X1
      · have e0 : decide (j < X1) = true := decide_eq_true hj
        have e1 : decide ((j : Int) < (X1 : Int)) = true := decide_eq_true (by omega)
        have hjs : j < st.size := by have := HH.out; omega
        have e2 : (j : Int) < (st.size : Int) := by omega
        have hk0 := HY.out.2.2.2.1 j hjr.1 hj
        have hof := of5_kl st true j hjs w9
        rw [hk0] at hof
        have hn0 : ((0 : Int) != 0) = false := rfl
        obtain ⟨M, hM⟩ : ∃ M, M = j + 1 := ⟨_, rfl⟩
        have hwM : IntKind.i64.wrap ((j : Int) + 1) = (M : Int) := by have := HH.out; rw [IntKind.wrap_i64]; omega
        have HM := Lib.hid (And.intro hM (And.intro hj hjr))
        clear hk0 hM hj hjr
        go_wp2_with fail
        refine hof.mono ?_
        rintro e w' ⟨rfl, rfl⟩
        clear hof
        go_wp2
        go_round
        case rel => exact ⟨M, rfl, by have := HM.out; omega, by have := HM.out; omega⟩
        case measure => have := HM.out; simp [RowKit.intOf]; omega
      · have e0 : decide (j < X1) = false := decide_eq_false hj
        have e1 : decide ((j : Int) < (X1 : Int)) = false := decide_eq_false (by omega)
        clear hj hjr
        go_wp2
        go_loop [16] (fun u => ∃ j : Nat, u = .int .i64 j ∧ Hid (X2 ≤ j ∧ j ≤ Y2)) (fun u => Y2 - (RowKit.intOf u).toNat)
        case atStart => exact ⟨X2, rfl, Nat.le_refl _, HY.out.2.1⟩
        case round =>
          obtain ⟨k, rfl, hR⟩ := hrel
          have hjr := hR.out
          by_cases hj : k < Y2
          · have e0 : decide (k < Y2) = true := decide_eq_true hj
            have e1 : decide ((k : Int) < (Y2 : Int)) = true := decide_eq_true (by omega)
            have hjs : k < st.size := by have := HY.out.2.2.1; omega
            have e2 : (k : Int) < (st.size : Int) := by omega
            have hk0 := HY.out.2.2.2.2 k hjr.1 hj
            have hof := of5_kl st true k hjs w9
            rw [hk0] at hof
            have hn0 : ((0 : Int) != 0) = false := rfl
            obtain ⟨M, hM⟩ : ∃ M, M = k + 1 := ⟨_, rfl⟩
            have hwM : IntKind.i64.wrap ((k : Int) + 1) = (M : Int) := by have := HH.out; rw [IntKind.wrap_i64]; omega
            have HM := Lib.hid (And.intro hM (And.intro hj hjr))
            clear hk0 hM hj hjr
            go_wp2_with fail
            refine hof.mono ?_
            rintro e w' ⟨rfl, rfl⟩
            clear hof
            go_wp2
            go_round
            case rel => exact ⟨M, rfl, by have := HM.out; omega, by have := HM.out; omega⟩
            case measure => have := HM.out; simp [RowKit.intOf]; omega
          · have e0 : decide (k < Y2) = false := decide_eq_false hj
            have e1 : decide ((k : Int) < (Y2 : Int)) = false := decide_eq_false (by omega)
            clear hj hjr
            go_wp2
            go_ret
            exact ⟨rfl, below_on HB1.out D.out⟩
  · have hye : Y2 = X2 := hyo.resolve_left hyx
    have hnf2 : ∀ W : World, (binOp .neq 36 (.agg #[.int .i64 (i : Int), .int .i64 (Y1 : Int)]) (.agg #[.int .i64 (i : Int), .int .i64 (X1 : Int)])).run Try.prog W = .ok (.bool true) W := fun W => by
      rw [neq_pos, decide_eq_true (rfl : (i : Int) = i), decide_eq_false (show ¬ (Y1 : Int) = (X1 : Int) by omega)]; rfl
    have hnt2 : ∀ W : World, (binOp .neq 36 (.agg #[.int .i64 (i : Int), .int .i64 (Y2 : Int)]) (.agg #[.int .i64 (i : Int), .int .i64 (X2 : Int)])).run Try.prog W = .ok (.bool false) W := fun W => by
      rw [neq_pos, decide_eq_true (rfl : (i : Int) = i), decide_eq_true (show (Y2 : Int) = (X2 : Int) by omega)]; rfl
    clear hyo hyx hye
    go_wp2
    clear hk1
    go_loop [15] (fun u => ∃ j : Nat, u = .int .i64 j ∧ Hid (Y1 ≤ j ∧ j ≤ X1)) (fun u => X1 - (RowKit.intOf u).toNat)
    case atStart => exact ⟨Y1, rfl, Nat.le_refl _, HY.out.1⟩
    case round =>
      obtain ⟨j, rfl, hR⟩ := hrel
      have hjr := hR.out
      by_cases hj : j < X1
      · have e0 : decide (j < X1) = true := decide_eq_true hj
        have e1 : decide ((j : Int) < (X1 : Int)) = true := decide_eq_true (by omega)
        have hjs : j < st.size := by have := HH.out; omega
        have e2 : (j : Int) < (st.size : Int) := by omega
        have hk0 := HY.out.2.2.2.1 j hjr.1 hj
        have hof := of5_kl st true j hjs w9
        rw [hk0] at hof
        have hn0 : ((0 : Int) != 0) = false := rfl
        obtain ⟨M, hM⟩ : ∃ M, M = j + 1 := ⟨_, rfl⟩
        have hwM : IntKind.i64.wrap ((j : Int) + 1) = (M : Int) := by have := HH.out; rw [IntKind.wrap_i64]; omega
        have HM := Lib.hid (And.intro hM (And.intro hj hjr))
        clear hk0 hM hj hjr
        go_wp2_with fail
        refine hof.mono ?_
        rintro e w' ⟨rfl, rfl⟩
        clear hof
        go_wp2
        go_round
        case rel => exact ⟨M, rfl, by have := HM.out; omega, by have := HM.out; omega⟩
        case measure => have := HM.out; simp [RowKit.intOf]; omega
      · have e0 : decide (j < X1) = false := decide_eq_false hj
        have e1 : decide ((j : Int) < (X1 : Int)) = false := decide_eq_false (by omega)
        clear hj hjr
        go_wp2
        go_loop [16] (fun u => ∃ j : Nat, u = .int .i64 j ∧ Hid (X2 ≤ j ∧ j ≤ Y2)) (fun u => Y2 - (RowKit.intOf u).toNat)
        case atStart => exact ⟨X2, rfl, Nat.le_refl _, HY.out.2.1⟩
        case round =>
          obtain ⟨k, rfl, hR⟩ := hrel
          have hjr := hR.out
          by_cases hj : k < Y2
          · have e0 : decide (k < Y2) = true := decide_eq_true hj
            have e1 : decide ((k : Int) < (Y2 : Int)) = true := decide_eq_true (by omega)
            have hjs : k < st.size := by have := HY.out.2.2.1; omega
            have e2 : (k : Int) < (st.size : Int) := by omega
            have hk0 := HY.out.2.2.2.2 k hjr.1 hj
            have hof := of5_kl st true k hjs w9
            rw [hk0] at hof
            have hn0 : ((0 : Int) != 0) = false := rfl
            obtain ⟨M, hM⟩ : ∃ M, M = k + 1 := ⟨_, rfl⟩
            have hwM : IntKind.i64.wrap ((k : Int) + 1) = (M : Int) := by have := HH.out; rw [IntKind.wrap_i64]; omega
            have HM := Lib.hid (And.intro hM (And.intro hj hjr))
            clear hk0 hM hj hjr
            go_wp2_with fail
            refine hof.mono ?_
            rintro e w' ⟨rfl, rfl⟩
            clear hof
            go_wp2
            go_round
            case rel => exact ⟨M, rfl, by have := HM.out; omega, by have := HM.out; omega⟩
            case measure => have := HM.out; simp [RowKit.intOf]; omega
          · have e0 : decide (k < Y2) = false := decide_eq_false hj
            have e1 : decide ((k : Int) < (Y2 : Int)) = false := decide_eq_false (by omega)
            clear hj hjr
            go_wp2
            go_ret
            exact ⟨rfl, below_on HB1.out D.out⟩
end Go.Proofs.Ytenehehljmckbaa.OAr
