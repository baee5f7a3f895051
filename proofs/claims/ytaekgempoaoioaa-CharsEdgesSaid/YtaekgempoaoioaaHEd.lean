/-
  The law CharsEdges, walked.
-/
import Derived.Test.YtaekgempoaoioaaHw
import Derived.Test.YtaekgempoaoioaaMo
set_option linter.unusedVariables false
set_option linter.unusedSimpArgs false
set_option maxRecDepth 100000
namespace Go.Proofs.Ytaekgempoaoioaa.HEd
open Go Go.RowKit Go.Proofs.Ytaekgempoaoioaa.Vk Go.Proofs.Ytaekgempoaoioaa.Str Go.Proofs.Ytaekgempoaoioaa.Ln Go.Proofs.Ytaekgempoaoioaa.Cl Go.Proofs.Ytaekgempoaoioaa.Mv Go.Proofs.Ytaekgempoaoioaa.Ch
attribute [local go_sem] Oper.semAt_some
set_option maxHeartbeats 4000000

theorem walk (a : Option Addr) (n c' : Nat) (ls : List ByteArray) (x y q : Int) (w : World) (h : Ss w a n c' ls) (hs : ∀ s ∈ ls, s.size ≤ 140737488355328) (hx : (Lit.int .u16 x).wf = true) (hy : (Lit.int .u16 y).wf = true) (hq0 : (Lit.int .u16 q).wf = true) :
    Calls Try.prog 6 #[.slice a n c', .int .u16 x, .int .u16 y, .int .u16 q] w fun e w' => e = .returned (.bool true) ∧ Below w.heap.size w w' := by
  have hk := known_any w
  have x2 : 0 ≤ x ∧ x ≤ 65535 := by simpa [Lit.wf, IntKind.min, IntKind.max, IntKind.signed, IntKind.bits] using hx
  have y2 : 0 ≤ y ∧ y ≤ 65535 := by simpa [Lit.wf, IntKind.min, IntKind.max, IntKind.signed, IntKind.bits] using hy
  have q2 : 0 ≤ q ∧ q ≤ 65535 := by simpa [Lit.wf, IntKind.min, IntKind.max, IntKind.signed, IntKind.bits] using hq0
  go_enter Try.func6, Try.ntmps6
  go_wp2_with fail
  refine hk.mono ?_
  rintro e w1 ⟨rfl, hb1⟩
  have htx := text_any a n c' ls w1 (SrcV.below h hb1) hs
  have HS1 := Lib.hid (SrcV.below h hb1)
  have HB1 := Lib.hid hb1
  clear hk hb1 h
  go_wp2_with fail
  refine htx.mono ?_
  rintro e w' ⟨qq, rfl, rfl, hq⟩
  clear htx
  cases qq
  · clear hq
    go_wp2
    go_ret
    exact ⟨rfl, HB1.out⟩
  obtain ⟨hn0, hn40, hz, _⟩ := hq rfl
  clear hq
  have hse := seat_any a n c' ls x y w1 HS1.out hn0 hs x2 y2
  go_wp2_with fail
  refine hse.mono ?_
  rintro e w2 ⟨⟨i, m, rfl, hi, hm⟩, hb2⟩
  have D := Lib.hid hb2
  clear hse hb2
  go_upto_region 6 with fail
  obtain ⟨x2, hx2⟩ : ∃ x2, x2 = w2.alloc (.cells #[.int .i64 (i : Int), .int .i64 (m : Int)] 24) := ⟨_, rfl⟩
  have hA : Below w2.heap.size w2 x2 := by rw [hx2]; exact (Below.refl _ w2).alloc (Nat.le_refl _) _
  have hV := PosAt.new w2 (i : Int) (m : Int)
  rw [← hx2] at hV ⊢
  have gg_D := D.out.size
  have D := Lib.hid (below_on D.out hA)
  obtain ⟨b_P, hbf⟩ : ∃ b, b = w2.heap.size := ⟨_, rfl⟩
  rw [← hbf] at hV ⊢
  have g_P_D := Lib.hid (show w1.heap.size ≤ b_P by rw [hbf]; exact gg_D)
  clear gg_D
  have P := Lib.hid hV
  clear hV hA hx2 hbf
  have c_P := P.out
  have P0 := c_P.c0
  have P1 := c_P.c1
  clear c_P
  have ew : IntKind.i64.wrap q = q := by rw [IntKind.wrap_i64]; omega
  have ew2 : IntKind.i64.wrap (q + 1) = q + 1 := by rw [IntKind.wrap_i64]; omega
  have hlen := Ss.length HS1.out
  have hP : Plc ls (i : Int) (m : Int) := (plc_nat (by omega)).2 hm
  have hin : lineAt ls i ∈ ls := by rw [lineAt_get (by omega)]; exact List.getElem_mem _
  have hsz : (lineAt ls i).size + 1 ≤ tz ls := tz_mem _ _ hin
  obtain ⟨bs, os, ha, hcell, hnc, _⟩ := Ss.read HS1.out i (by omega)
  rw [← lineAt_get (by omega)] at hcell
  subst ha
  have k1 := fun W (hW : Below w1.heap.size w1 W) => left_any _ n c' ls i m (q + 1) W (SrcV.below HS1.out hW) hs
  have k2 := fun W (hW : Below w1.heap.size w1 W) => right_any _ n c' ls i m (q + 1) false W (SrcV.below HS1.out hW) hs
  have k3 := fun W (hW : Below w1.heap.size w1 W) => right_any _ n c' ls i m (q + 1) true W (SrcV.below HS1.out hW) hs
  have hc := cell_later D.out hcell
  have r1 : leftR ls i m (q + 1) = if 0 < m then R.to i (max ((m : Int) - (q + 1)) 0) else R.no := by
    unfold leftR
    by_cases hh : 0 < m
    · rw [if_pos ⟨hP, by omega, by omega⟩, if_pos hh, show min (q + 1) 1073741824 = q + 1 by omega]
    · rw [if_neg (fun h => hh (by have := h.2.2; omega)), if_neg hh]
  have r2 : ∀ past : Bool, rightR ls i m (q + 1) past = if m < top (lineAt ls i) past then R.to i (min ((m : Int) + (q + 1)) (top (lineAt ls i) past : Nat)) else R.no := fun past => by
    unfold rightR
    rw [Int.toNat_natCast]
    by_cases hh : m < top (lineAt ls i) past
    · rw [if_pos ⟨hP, by omega, by omega⟩, if_pos hh, show min (q + 1) 1073741824 = q + 1 by omega]
    · rw [if_neg (fun h => hh (by have := h.2.2; omega)), if_neg hh]
  rw [r1] at k1
  rw [r2] at k2 k3
  have t1 : top (lineAt ls i) false = (lineAt ls i).size - 1 := by unfold top; rw [if_neg (by decide)]
  have t2 : top (lineAt ls i) true = (lineAt ls i).size := by unfold top; rw [if_pos rfl]
  rw [t1] at k2
  rw [t2] at k3
  clear r1 r2 t1 t2 hcell hP hin
  generalize lineAt ls i = s at *
  have e1 : IntKind.i64.wrap ((m : Int) - (q + 1)) = (m : Int) - (q + 1) := by rw [IntKind.wrap_i64]; omega
  have e2 : IntKind.i64.wrap ((m : Int) + (q + 1)) = (m : Int) + (q + 1) := by rw [IntKind.wrap_i64]; omega
  have e3 : IntKind.i64.wrap ((s.size : Int) - 1) = (s.size : Int) - 1 := by rw [IntKind.wrap_i64]; omega
  go_upto_region 8 with fail
  by_cases h0 : 0 < m
  · by_cases hA : m < s.size - 1
    · have hB : m < s.size := by omega
      obtain ⟨E1, hE1⟩ : ∃ E1, E1 = max ((m : Int) - (q + 1)) 0 := ⟨_, rfl⟩
      rw [if_pos h0, ← hE1] at k1
      unfold R.to at k1
      obtain ⟨E2, hE2⟩ : ∃ E2, E2 = min ((m : Int) + (q + 1)) ((s.size - 1 : Nat) : Int) := ⟨_, rfl⟩
      rw [if_pos hA, ← hE2] at k2
      unfold R.to at k2
      obtain ⟨E3, hE3⟩ : ∃ E3, E3 = min ((m : Int) + (q + 1)) ((s.size : Nat) : Int) := ⟨_, rfl⟩
      rw [if_pos hB, ← hE3] at k3
      unfold R.to at k3
      have a1 : (if (m : Int) - (q + 1) < 0 then 0 else (m : Int) - (q + 1)) = E1 := by omega
      have a2 : max ((m : Int) - (q + 1)) 0 = E1 := hE1.symm
      have a3 : (if (s.size : Int) - 1 < (m : Int) + (q + 1) then (s.size : Int) - 1 else (m : Int) + (q + 1)) = E2 := by omega
      have a4 : min ((m : Int) + (q + 1)) ((s.size : Int) - 1) = E2 := by omega
      have a5 : (if (s.size : Int) < (m : Int) + (q + 1) then (s.size : Int) else (m : Int) + (q + 1)) = E3 := by omega
      have a6 : min ((m : Int) + (q + 1)) (s.size : Int) = E3 := by omega
      have b2 : (m : Int) < (s.size : Int) - 1 := by omega
      clear hE1 hE2 hE3 hA hm hi
      go_wp2_with fail
      refine (k1 _ D.out).mono ?_
      rintro e w3 ⟨rfl, hb⟩
      clear P0 P1
      have D := Lib.hid (below_on D.out hb)
      have P := Lib.hid (P.out.below hb P.out.lt)
      clear hb k1
      go_upto_region 9 with fail
      obtain ⟨x3, hx3⟩ : ∃ x3, x3 = w3.alloc (.cells #[.int .i64 (i : Int), .int .i64 E1, .int .i64 0, .bool false, .int .i64 (-1)] 32) := ⟨_, rfl⟩
      have hA : Below w3.heap.size w3 x3 := by rw [hx3]; exact (Below.refl _ w3).alloc (Nat.le_refl _) _
      have hV := MvAt.new w3 (i : Int) E1 0 (-1) false
      rw [← hx3] at hV ⊢
      have lt_P := P.out.lt
      have gg_D := D.out.size
      have D := Lib.hid (below_on D.out hA)
      have P := Lib.hid (P.out.below hA P.out.lt)
      obtain ⟨b_U, hbf⟩ : ∃ b, b = w3.heap.size := ⟨_, rfl⟩
      rw [← hbf] at hV ⊢
      have n_P_U := Lib.hid (show b_P ≠ b_U by omega)
      clear lt_P
      have g_U_D := Lib.hid (show w1.heap.size ≤ b_U by rw [hbf]; exact gg_D)
      clear gg_D
      have U := Lib.hid hV
      clear hV hA hx3 hbf
      have c_P := P.out
      have P0 := c_P.c0
      have P1 := c_P.c1
      clear c_P
      have c_U := U.out
      have U0 := c_U.c0
      have U1 := c_U.c1
      have U2 := c_U.c2
      have U3 := c_U.c3
      have U4 := c_U.c4
      clear c_U
      go_upto_region 11 with fail
      go_wp2_with fail
      refine (k2 _ D.out).mono ?_
      rintro e w4 ⟨rfl, hb⟩
      clear P0 P1 U0 U1 U2 U3 U4
      have D := Lib.hid (below_on D.out hb)
      have P := Lib.hid (P.out.below hb P.out.lt)
      have U := Lib.hid (U.out.below hb U.out.lt)
      clear hb k2
      go_upto_region 12 with fail
      obtain ⟨x4, hx4⟩ : ∃ x4, x4 = w4.alloc (.cells #[.int .i64 (i : Int), .int .i64 E2, .int .i64 0, .bool false, .int .i64 (-1)] 32) := ⟨_, rfl⟩
      have hA : Below w4.heap.size w4 x4 := by rw [hx4]; exact (Below.refl _ w4).alloc (Nat.le_refl _) _
      have hV := MvAt.new w4 (i : Int) E2 0 (-1) false
      rw [← hx4] at hV ⊢
      have lt_P := P.out.lt
      have lt_U := U.out.lt
      have gg_D := D.out.size
      have D := Lib.hid (below_on D.out hA)
      have P := Lib.hid (P.out.below hA P.out.lt)
      have U := Lib.hid (U.out.below hA U.out.lt)
      obtain ⟨b_V, hbf⟩ : ∃ b, b = w4.heap.size := ⟨_, rfl⟩
      rw [← hbf] at hV ⊢
      have n_P_V := Lib.hid (show b_P ≠ b_V by omega)
      clear lt_P
      have n_U_V := Lib.hid (show b_U ≠ b_V by omega)
      clear lt_U
      have g_V_D := Lib.hid (show w1.heap.size ≤ b_V by rw [hbf]; exact gg_D)
      clear gg_D
      have V := Lib.hid hV
      clear hV hA hx4 hbf
      have c_P := P.out
      have P0 := c_P.c0
      have P1 := c_P.c1
      clear c_P
      have c_U := U.out
      have U0 := c_U.c0
      have U1 := c_U.c1
      have U2 := c_U.c2
      have U3 := c_U.c3
      have U4 := c_U.c4
      clear c_U
      have c_V := V.out
      have V0 := c_V.c0
      have V1 := c_V.c1
      have V2 := c_V.c2
      have V3 := c_V.c3
      have V4 := c_V.c4
      clear c_V
      go_upto_region 14 with fail
      go_wp2_with fail
      refine (k3 _ D.out).mono ?_
      rintro e w5 ⟨rfl, hb⟩
      clear P0 P1 U0 U1 U2 U3 U4 V0 V1 V2 V3 V4
      have D := Lib.hid (below_on D.out hb)
      have P := Lib.hid (P.out.below hb P.out.lt)
      have U := Lib.hid (U.out.below hb U.out.lt)
      have V := Lib.hid (V.out.below hb V.out.lt)
      clear hb k3
      go_upto_region 15 with fail
      obtain ⟨x5, hx5⟩ : ∃ x5, x5 = w5.alloc (.cells #[.int .i64 (i : Int), .int .i64 E3, .int .i64 0, .bool false, .int .i64 (-1)] 32) := ⟨_, rfl⟩
      have hA : Below w5.heap.size w5 x5 := by rw [hx5]; exact (Below.refl _ w5).alloc (Nat.le_refl _) _
      have hV := MvAt.new w5 (i : Int) E3 0 (-1) false
      rw [← hx5] at hV ⊢
      have lt_P := P.out.lt
      have lt_U := U.out.lt
      have lt_V := V.out.lt
      have gg_D := D.out.size
      have D := Lib.hid (below_on D.out hA)
      have P := Lib.hid (P.out.below hA P.out.lt)
      have U := Lib.hid (U.out.below hA U.out.lt)
      have V := Lib.hid (V.out.below hA V.out.lt)
      obtain ⟨b_Z, hbf⟩ : ∃ b, b = w5.heap.size := ⟨_, rfl⟩
      rw [← hbf] at hV ⊢
      have n_P_Z := Lib.hid (show b_P ≠ b_Z by omega)
      clear lt_P
      have n_U_Z := Lib.hid (show b_U ≠ b_Z by omega)
      clear lt_U
      have n_V_Z := Lib.hid (show b_V ≠ b_Z by omega)
      clear lt_V
      have g_Z_D := Lib.hid (show w1.heap.size ≤ b_Z by rw [hbf]; exact gg_D)
      clear gg_D
      have Z := Lib.hid hV
      clear hV hA hx5 hbf
      have c_P := P.out
      have P0 := c_P.c0
      have P1 := c_P.c1
      clear c_P
      have c_U := U.out
      have U0 := c_U.c0
      have U1 := c_U.c1
      have U2 := c_U.c2
      have U3 := c_U.c3
      have U4 := c_U.c4
      clear c_U
      have c_V := V.out
      have V0 := c_V.c0
      have V1 := c_V.c1
      have V2 := c_V.c2
      have V3 := c_V.c3
      have V4 := c_V.c4
      clear c_V
      have c_Z := Z.out
      have Z0 := c_Z.c0
      have Z1 := c_Z.c1
      have Z2 := c_Z.c2
      have Z3 := c_Z.c3
      have Z4 := c_Z.c4
      clear c_Z
      go_wp2
      go_ret
      exact ⟨rfl, below_on HB1.out D.out⟩
    · by_cases hB : m < s.size
      · obtain ⟨E1, hE1⟩ : ∃ E1, E1 = max ((m : Int) - (q + 1)) 0 := ⟨_, rfl⟩
        rw [if_pos h0, ← hE1] at k1
        unfold R.to at k1
        rw [if_neg hA] at k2
        unfold R.no at k2
        obtain ⟨E3, hE3⟩ : ∃ E3, E3 = min ((m : Int) + (q + 1)) ((s.size : Nat) : Int) := ⟨_, rfl⟩
        rw [if_pos hB, ← hE3] at k3
        unfold R.to at k3
        have a1 : (if (m : Int) - (q + 1) < 0 then 0 else (m : Int) - (q + 1)) = E1 := by omega
        have a2 : max ((m : Int) - (q + 1)) 0 = E1 := hE1.symm
        have a5 : (if (s.size : Int) < (m : Int) + (q + 1) then (s.size : Int) else (m : Int) + (q + 1)) = E3 := by omega
        have a6 : min ((m : Int) + (q + 1)) (s.size : Int) = E3 := by omega
        have b2 : ¬ (m : Int) < (s.size : Int) - 1 := by omega
        clear hE1 hE3 hA hm hi
        go_wp2_with fail
        refine (k1 _ D.out).mono ?_
        rintro e w3 ⟨rfl, hb⟩
        clear P0 P1
        have D := Lib.hid (below_on D.out hb)
        have P := Lib.hid (P.out.below hb P.out.lt)
        clear hb k1
        go_upto_region 9 with fail
        obtain ⟨x3, hx3⟩ : ∃ x3, x3 = w3.alloc (.cells #[.int .i64 (i : Int), .int .i64 E1, .int .i64 0, .bool false, .int .i64 (-1)] 32) := ⟨_, rfl⟩
        have hA : Below w3.heap.size w3 x3 := by rw [hx3]; exact (Below.refl _ w3).alloc (Nat.le_refl _) _
        have hV := MvAt.new w3 (i : Int) E1 0 (-1) false
        rw [← hx3] at hV ⊢
        have lt_P := P.out.lt
        have gg_D := D.out.size
        have D := Lib.hid (below_on D.out hA)
        have P := Lib.hid (P.out.below hA P.out.lt)
        obtain ⟨b_U, hbf⟩ : ∃ b, b = w3.heap.size := ⟨_, rfl⟩
        rw [← hbf] at hV ⊢
        have n_P_U := Lib.hid (show b_P ≠ b_U by omega)
        clear lt_P
        have g_U_D := Lib.hid (show w1.heap.size ≤ b_U by rw [hbf]; exact gg_D)
        clear gg_D
        have U := Lib.hid hV
        clear hV hA hx3 hbf
        have c_P := P.out
        have P0 := c_P.c0
        have P1 := c_P.c1
        clear c_P
        have c_U := U.out
        have U0 := c_U.c0
        have U1 := c_U.c1
        have U2 := c_U.c2
        have U3 := c_U.c3
        have U4 := c_U.c4
        clear c_U
        go_upto_region 11 with fail
        go_wp2_with fail
        refine (k2 _ D.out).mono ?_
        rintro e w4 ⟨rfl, hb⟩
        clear P0 P1 U0 U1 U2 U3 U4
        have D := Lib.hid (below_on D.out hb)
        have P := Lib.hid (P.out.below hb P.out.lt)
        have U := Lib.hid (U.out.below hb U.out.lt)
        clear hb k2
        go_upto_region 12 with fail
        obtain ⟨x4, hx4⟩ : ∃ x4, x4 = w4.alloc (.cells #[.int .i64 0, .int .i64 0, .int .i64 0, .bool false, .int .i64 0] 32) := ⟨_, rfl⟩
        have hA : Below w4.heap.size w4 x4 := by rw [hx4]; exact (Below.refl _ w4).alloc (Nat.le_refl _) _
        have hV := MvAt.new w4 0 0 0 0 false
        rw [← hx4] at hV ⊢
        have lt_P := P.out.lt
        have lt_U := U.out.lt
        have gg_D := D.out.size
        have D := Lib.hid (below_on D.out hA)
        have P := Lib.hid (P.out.below hA P.out.lt)
        have U := Lib.hid (U.out.below hA U.out.lt)
        obtain ⟨b_V, hbf⟩ : ∃ b, b = w4.heap.size := ⟨_, rfl⟩
        rw [← hbf] at hV ⊢
        have n_P_V := Lib.hid (show b_P ≠ b_V by omega)
        clear lt_P
        have n_U_V := Lib.hid (show b_U ≠ b_V by omega)
        clear lt_U
        have g_V_D := Lib.hid (show w1.heap.size ≤ b_V by rw [hbf]; exact gg_D)
        clear gg_D
        have V := Lib.hid hV
        clear hV hA hx4 hbf
        have c_P := P.out
        have P0 := c_P.c0
        have P1 := c_P.c1
        clear c_P
        have c_U := U.out
        have U0 := c_U.c0
        have U1 := c_U.c1
        have U2 := c_U.c2
        have U3 := c_U.c3
        have U4 := c_U.c4
        clear c_U
        have c_V := V.out
        have V0 := c_V.c0
        have V1 := c_V.c1
        have V2 := c_V.c2
        have V3 := c_V.c3
        have V4 := c_V.c4
        clear c_V
        go_upto_region 14 with fail
        go_wp2_with fail
        refine (k3 _ D.out).mono ?_
        rintro e w5 ⟨rfl, hb⟩
        clear P0 P1 U0 U1 U2 U3 U4 V0 V1 V2 V3 V4
        have D := Lib.hid (below_on D.out hb)
        have P := Lib.hid (P.out.below hb P.out.lt)
        have U := Lib.hid (U.out.below hb U.out.lt)
        have V := Lib.hid (V.out.below hb V.out.lt)
        clear hb k3
        go_upto_region 15 with fail
        obtain ⟨x5, hx5⟩ : ∃ x5, x5 = w5.alloc (.cells #[.int .i64 (i : Int), .int .i64 E3, .int .i64 0, .bool false, .int .i64 (-1)] 32) := ⟨_, rfl⟩
        have hA : Below w5.heap.size w5 x5 := by rw [hx5]; exact (Below.refl _ w5).alloc (Nat.le_refl _) _
        have hV := MvAt.new w5 (i : Int) E3 0 (-1) false
        rw [← hx5] at hV ⊢
        have lt_P := P.out.lt
        have lt_U := U.out.lt
        have lt_V := V.out.lt
        have gg_D := D.out.size
        have D := Lib.hid (below_on D.out hA)
        have P := Lib.hid (P.out.below hA P.out.lt)
        have U := Lib.hid (U.out.below hA U.out.lt)
        have V := Lib.hid (V.out.below hA V.out.lt)
        obtain ⟨b_Z, hbf⟩ : ∃ b, b = w5.heap.size := ⟨_, rfl⟩
        rw [← hbf] at hV ⊢
        have n_P_Z := Lib.hid (show b_P ≠ b_Z by omega)
        clear lt_P
        have n_U_Z := Lib.hid (show b_U ≠ b_Z by omega)
        clear lt_U
        have n_V_Z := Lib.hid (show b_V ≠ b_Z by omega)
        clear lt_V
        have g_Z_D := Lib.hid (show w1.heap.size ≤ b_Z by rw [hbf]; exact gg_D)
        clear gg_D
        have Z := Lib.hid hV
        clear hV hA hx5 hbf
        have c_P := P.out
        have P0 := c_P.c0
        have P1 := c_P.c1
        clear c_P
        have c_U := U.out
        have U0 := c_U.c0
        have U1 := c_U.c1
        have U2 := c_U.c2
        have U3 := c_U.c3
        have U4 := c_U.c4
        clear c_U
        have c_V := V.out
        have V0 := c_V.c0
        have V1 := c_V.c1
        have V2 := c_V.c2
        have V3 := c_V.c3
        have V4 := c_V.c4
        clear c_V
        have c_Z := Z.out
        have Z0 := c_Z.c0
        have Z1 := c_Z.c1
        have Z2 := c_Z.c2
        have Z3 := c_Z.c3
        have Z4 := c_Z.c4
        clear c_Z
        go_wp2
        go_ret
        exact ⟨rfl, below_on HB1.out D.out⟩
      · obtain ⟨E1, hE1⟩ : ∃ E1, E1 = max ((m : Int) - (q + 1)) 0 := ⟨_, rfl⟩
        rw [if_pos h0, ← hE1] at k1
        unfold R.to at k1
        rw [if_neg hA] at k2
        unfold R.no at k2
        rw [if_neg hB] at k3
        unfold R.no at k3
        have a1 : (if (m : Int) - (q + 1) < 0 then 0 else (m : Int) - (q + 1)) = E1 := by omega
        have a2 : max ((m : Int) - (q + 1)) 0 = E1 := hE1.symm
        have b2 : ¬ (m : Int) < (s.size : Int) - 1 := by omega
        clear hE1 hA hm hi
        go_wp2_with fail
        refine (k1 _ D.out).mono ?_
        rintro e w3 ⟨rfl, hb⟩
        clear P0 P1
        have D := Lib.hid (below_on D.out hb)
        have P := Lib.hid (P.out.below hb P.out.lt)
        clear hb k1
        go_upto_region 9 with fail
        obtain ⟨x3, hx3⟩ : ∃ x3, x3 = w3.alloc (.cells #[.int .i64 (i : Int), .int .i64 E1, .int .i64 0, .bool false, .int .i64 (-1)] 32) := ⟨_, rfl⟩
        have hA : Below w3.heap.size w3 x3 := by rw [hx3]; exact (Below.refl _ w3).alloc (Nat.le_refl _) _
        have hV := MvAt.new w3 (i : Int) E1 0 (-1) false
        rw [← hx3] at hV ⊢
        have lt_P := P.out.lt
        have gg_D := D.out.size
        have D := Lib.hid (below_on D.out hA)
        have P := Lib.hid (P.out.below hA P.out.lt)
        obtain ⟨b_U, hbf⟩ : ∃ b, b = w3.heap.size := ⟨_, rfl⟩
        rw [← hbf] at hV ⊢
        have n_P_U := Lib.hid (show b_P ≠ b_U by omega)
        clear lt_P
        have g_U_D := Lib.hid (show w1.heap.size ≤ b_U by rw [hbf]; exact gg_D)
        clear gg_D
        have U := Lib.hid hV
        clear hV hA hx3 hbf
        have c_P := P.out
        have P0 := c_P.c0
        have P1 := c_P.c1
        clear c_P
        have c_U := U.out
        have U0 := c_U.c0
        have U1 := c_U.c1
        have U2 := c_U.c2
        have U3 := c_U.c3
        have U4 := c_U.c4
        clear c_U
        go_upto_region 11 with fail
        go_wp2_with fail
        refine (k2 _ D.out).mono ?_
        rintro e w4 ⟨rfl, hb⟩
        clear P0 P1 U0 U1 U2 U3 U4
        have D := Lib.hid (below_on D.out hb)
        have P := Lib.hid (P.out.below hb P.out.lt)
        have U := Lib.hid (U.out.below hb U.out.lt)
        clear hb k2
        go_upto_region 12 with fail
        obtain ⟨x4, hx4⟩ : ∃ x4, x4 = w4.alloc (.cells #[.int .i64 0, .int .i64 0, .int .i64 0, .bool false, .int .i64 0] 32) := ⟨_, rfl⟩
        have hA : Below w4.heap.size w4 x4 := by rw [hx4]; exact (Below.refl _ w4).alloc (Nat.le_refl _) _
        have hV := MvAt.new w4 0 0 0 0 false
        rw [← hx4] at hV ⊢
        have lt_P := P.out.lt
        have lt_U := U.out.lt
        have gg_D := D.out.size
        have D := Lib.hid (below_on D.out hA)
        have P := Lib.hid (P.out.below hA P.out.lt)
        have U := Lib.hid (U.out.below hA U.out.lt)
        obtain ⟨b_V, hbf⟩ : ∃ b, b = w4.heap.size := ⟨_, rfl⟩
        rw [← hbf] at hV ⊢
        have n_P_V := Lib.hid (show b_P ≠ b_V by omega)
        clear lt_P
        have n_U_V := Lib.hid (show b_U ≠ b_V by omega)
        clear lt_U
        have g_V_D := Lib.hid (show w1.heap.size ≤ b_V by rw [hbf]; exact gg_D)
        clear gg_D
        have V := Lib.hid hV
        clear hV hA hx4 hbf
        have c_P := P.out
        have P0 := c_P.c0
        have P1 := c_P.c1
        clear c_P
        have c_U := U.out
        have U0 := c_U.c0
        have U1 := c_U.c1
        have U2 := c_U.c2
        have U3 := c_U.c3
        have U4 := c_U.c4
        clear c_U
        have c_V := V.out
        have V0 := c_V.c0
        have V1 := c_V.c1
        have V2 := c_V.c2
        have V3 := c_V.c3
        have V4 := c_V.c4
        clear c_V
        go_upto_region 14 with fail
        go_wp2_with fail
        refine (k3 _ D.out).mono ?_
        rintro e w5 ⟨rfl, hb⟩
        clear P0 P1 U0 U1 U2 U3 U4 V0 V1 V2 V3 V4
        have D := Lib.hid (below_on D.out hb)
        have P := Lib.hid (P.out.below hb P.out.lt)
        have U := Lib.hid (U.out.below hb U.out.lt)
        have V := Lib.hid (V.out.below hb V.out.lt)
        clear hb k3
        go_upto_region 15 with fail
        obtain ⟨x5, hx5⟩ : ∃ x5, x5 = w5.alloc (.cells #[.int .i64 0, .int .i64 0, .int .i64 0, .bool false, .int .i64 0] 32) := ⟨_, rfl⟩
        have hA : Below w5.heap.size w5 x5 := by rw [hx5]; exact (Below.refl _ w5).alloc (Nat.le_refl _) _
        have hV := MvAt.new w5 0 0 0 0 false
        rw [← hx5] at hV ⊢
        have lt_P := P.out.lt
        have lt_U := U.out.lt
        have lt_V := V.out.lt
        have gg_D := D.out.size
        have D := Lib.hid (below_on D.out hA)
        have P := Lib.hid (P.out.below hA P.out.lt)
        have U := Lib.hid (U.out.below hA U.out.lt)
        have V := Lib.hid (V.out.below hA V.out.lt)
        obtain ⟨b_Z, hbf⟩ : ∃ b, b = w5.heap.size := ⟨_, rfl⟩
        rw [← hbf] at hV ⊢
        have n_P_Z := Lib.hid (show b_P ≠ b_Z by omega)
        clear lt_P
        have n_U_Z := Lib.hid (show b_U ≠ b_Z by omega)
        clear lt_U
        have n_V_Z := Lib.hid (show b_V ≠ b_Z by omega)
        clear lt_V
        have g_Z_D := Lib.hid (show w1.heap.size ≤ b_Z by rw [hbf]; exact gg_D)
        clear gg_D
        have Z := Lib.hid hV
        clear hV hA hx5 hbf
        have c_P := P.out
        have P0 := c_P.c0
        have P1 := c_P.c1
        clear c_P
        have c_U := U.out
        have U0 := c_U.c0
        have U1 := c_U.c1
        have U2 := c_U.c2
        have U3 := c_U.c3
        have U4 := c_U.c4
        clear c_U
        have c_V := V.out
        have V0 := c_V.c0
        have V1 := c_V.c1
        have V2 := c_V.c2
        have V3 := c_V.c3
        have V4 := c_V.c4
        clear c_V
        have c_Z := Z.out
        have Z0 := c_Z.c0
        have Z1 := c_Z.c1
        have Z2 := c_Z.c2
        have Z3 := c_Z.c3
        have Z4 := c_Z.c4
        clear c_Z
        go_wp2
        go_ret
        exact ⟨rfl, below_on HB1.out D.out⟩
  · by_cases hA : m < s.size - 1
    · have hB : m < s.size := by omega
      rw [if_neg h0] at k1
      unfold R.no at k1
      obtain ⟨E2, hE2⟩ : ∃ E2, E2 = min ((m : Int) + (q + 1)) ((s.size - 1 : Nat) : Int) := ⟨_, rfl⟩
      rw [if_pos hA, ← hE2] at k2
      unfold R.to at k2
      obtain ⟨E3, hE3⟩ : ∃ E3, E3 = min ((m : Int) + (q + 1)) ((s.size : Nat) : Int) := ⟨_, rfl⟩
      rw [if_pos hB, ← hE3] at k3
      unfold R.to at k3
      have a3 : (if (s.size : Int) - 1 < (m : Int) + (q + 1) then (s.size : Int) - 1 else (m : Int) + (q + 1)) = E2 := by omega
      have a4 : min ((m : Int) + (q + 1)) ((s.size : Int) - 1) = E2 := by omega
      have a5 : (if (s.size : Int) < (m : Int) + (q + 1) then (s.size : Int) else (m : Int) + (q + 1)) = E3 := by omega
      have a6 : min ((m : Int) + (q + 1)) (s.size : Int) = E3 := by omega
      have b2 : (m : Int) < (s.size : Int) - 1 := by omega
      clear hE2 hE3 hA hm hi
      go_wp2_with fail
      refine (k1 _ D.out).mono ?_
      rintro e w3 ⟨rfl, hb⟩
      clear P0 P1
      have D := Lib.hid (below_on D.out hb)
      have P := Lib.hid (P.out.below hb P.out.lt)
      clear hb k1
      go_upto_region 9 with fail
      obtain ⟨x3, hx3⟩ : ∃ x3, x3 = w3.alloc (.cells #[.int .i64 0, .int .i64 0, .int .i64 0, .bool false, .int .i64 0] 32) := ⟨_, rfl⟩
      have hA : Below w3.heap.size w3 x3 := by rw [hx3]; exact (Below.refl _ w3).alloc (Nat.le_refl _) _
      have hV := MvAt.new w3 0 0 0 0 false
      rw [← hx3] at hV ⊢
      have lt_P := P.out.lt
      have gg_D := D.out.size
      have D := Lib.hid (below_on D.out hA)
      have P := Lib.hid (P.out.below hA P.out.lt)
      obtain ⟨b_U, hbf⟩ : ∃ b, b = w3.heap.size := ⟨_, rfl⟩
      rw [← hbf] at hV ⊢
      have n_P_U := Lib.hid (show b_P ≠ b_U by omega)
      clear lt_P
      have g_U_D := Lib.hid (show w1.heap.size ≤ b_U by rw [hbf]; exact gg_D)
      clear gg_D
      have U := Lib.hid hV
      clear hV hA hx3 hbf
      have c_P := P.out
      have P0 := c_P.c0
      have P1 := c_P.c1
      clear c_P
      have c_U := U.out
      have U0 := c_U.c0
      have U1 := c_U.c1
      have U2 := c_U.c2
      have U3 := c_U.c3
      have U4 := c_U.c4
      clear c_U
      go_upto_region 11 with fail
      go_wp2_with fail
      refine (k2 _ D.out).mono ?_
      rintro e w4 ⟨rfl, hb⟩
      clear P0 P1 U0 U1 U2 U3 U4
      have D := Lib.hid (below_on D.out hb)
      have P := Lib.hid (P.out.below hb P.out.lt)
      have U := Lib.hid (U.out.below hb U.out.lt)
      clear hb k2
      go_upto_region 12 with fail
      obtain ⟨x4, hx4⟩ : ∃ x4, x4 = w4.alloc (.cells #[.int .i64 (i : Int), .int .i64 E2, .int .i64 0, .bool false, .int .i64 (-1)] 32) := ⟨_, rfl⟩
      have hA : Below w4.heap.size w4 x4 := by rw [hx4]; exact (Below.refl _ w4).alloc (Nat.le_refl _) _
      have hV := MvAt.new w4 (i : Int) E2 0 (-1) false
      rw [← hx4] at hV ⊢
      have lt_P := P.out.lt
      have lt_U := U.out.lt
      have gg_D := D.out.size
      have D := Lib.hid (below_on D.out hA)
      have P := Lib.hid (P.out.below hA P.out.lt)
      have U := Lib.hid (U.out.below hA U.out.lt)
      obtain ⟨b_V, hbf⟩ : ∃ b, b = w4.heap.size := ⟨_, rfl⟩
      rw [← hbf] at hV ⊢
      have n_P_V := Lib.hid (show b_P ≠ b_V by omega)
      clear lt_P
      have n_U_V := Lib.hid (show b_U ≠ b_V by omega)
      clear lt_U
      have g_V_D := Lib.hid (show w1.heap.size ≤ b_V by rw [hbf]; exact gg_D)
      clear gg_D
      have V := Lib.hid hV
      clear hV hA hx4 hbf
      have c_P := P.out
      have P0 := c_P.c0
      have P1 := c_P.c1
      clear c_P
      have c_U := U.out
      have U0 := c_U.c0
      have U1 := c_U.c1
      have U2 := c_U.c2
      have U3 := c_U.c3
      have U4 := c_U.c4
      clear c_U
      have c_V := V.out
      have V0 := c_V.c0
      have V1 := c_V.c1
      have V2 := c_V.c2
      have V3 := c_V.c3
      have V4 := c_V.c4
      clear c_V
      go_upto_region 14 with fail
      go_wp2_with fail
      refine (k3 _ D.out).mono ?_
      rintro e w5 ⟨rfl, hb⟩
      clear P0 P1 U0 U1 U2 U3 U4 V0 V1 V2 V3 V4
      have D := Lib.hid (below_on D.out hb)
      have P := Lib.hid (P.out.below hb P.out.lt)
      have U := Lib.hid (U.out.below hb U.out.lt)
      have V := Lib.hid (V.out.below hb V.out.lt)
      clear hb k3
      go_upto_region 15 with fail
      obtain ⟨x5, hx5⟩ : ∃ x5, x5 = w5.alloc (.cells #[.int .i64 (i : Int), .int .i64 E3, .int .i64 0, .bool false, .int .i64 (-1)] 32) := ⟨_, rfl⟩
      have hA : Below w5.heap.size w5 x5 := by rw [hx5]; exact (Below.refl _ w5).alloc (Nat.le_refl _) _
      have hV := MvAt.new w5 (i : Int) E3 0 (-1) false
      rw [← hx5] at hV ⊢
      have lt_P := P.out.lt
      have lt_U := U.out.lt
      have lt_V := V.out.lt
      have gg_D := D.out.size
      have D := Lib.hid (below_on D.out hA)
      have P := Lib.hid (P.out.below hA P.out.lt)
      have U := Lib.hid (U.out.below hA U.out.lt)
      have V := Lib.hid (V.out.below hA V.out.lt)
      obtain ⟨b_Z, hbf⟩ : ∃ b, b = w5.heap.size := ⟨_, rfl⟩
      rw [← hbf] at hV ⊢
      have n_P_Z := Lib.hid (show b_P ≠ b_Z by omega)
      clear lt_P
      have n_U_Z := Lib.hid (show b_U ≠ b_Z by omega)
      clear lt_U
      have n_V_Z := Lib.hid (show b_V ≠ b_Z by omega)
      clear lt_V
      have g_Z_D := Lib.hid (show w1.heap.size ≤ b_Z by rw [hbf]; exact gg_D)
      clear gg_D
      have Z := Lib.hid hV
      clear hV hA hx5 hbf
      have c_P := P.out
      have P0 := c_P.c0
      have P1 := c_P.c1
      clear c_P
      have c_U := U.out
      have U0 := c_U.c0
      have U1 := c_U.c1
      have U2 := c_U.c2
      have U3 := c_U.c3
      have U4 := c_U.c4
      clear c_U
      have c_V := V.out
      have V0 := c_V.c0
      have V1 := c_V.c1
      have V2 := c_V.c2
      have V3 := c_V.c3
      have V4 := c_V.c4
      clear c_V
      have c_Z := Z.out
      have Z0 := c_Z.c0
      have Z1 := c_Z.c1
      have Z2 := c_Z.c2
      have Z3 := c_Z.c3
      have Z4 := c_Z.c4
      clear c_Z
      go_wp2
      go_ret
      exact ⟨rfl, below_on HB1.out D.out⟩
    · by_cases hB : m < s.size
      · rw [if_neg h0] at k1
        unfold R.no at k1
        rw [if_neg hA] at k2
        unfold R.no at k2
        obtain ⟨E3, hE3⟩ : ∃ E3, E3 = min ((m : Int) + (q + 1)) ((s.size : Nat) : Int) := ⟨_, rfl⟩
        rw [if_pos hB, ← hE3] at k3
        unfold R.to at k3
        have a5 : (if (s.size : Int) < (m : Int) + (q + 1) then (s.size : Int) else (m : Int) + (q + 1)) = E3 := by omega
        have a6 : min ((m : Int) + (q + 1)) (s.size : Int) = E3 := by omega
        have b2 : ¬ (m : Int) < (s.size : Int) - 1 := by omega
        clear hE3 hA hm hi
        go_wp2_with fail
        refine (k1 _ D.out).mono ?_
        rintro e w3 ⟨rfl, hb⟩
        clear P0 P1
        have D := Lib.hid (below_on D.out hb)
        have P := Lib.hid (P.out.below hb P.out.lt)
        clear hb k1
        go_upto_region 9 with fail
        obtain ⟨x3, hx3⟩ : ∃ x3, x3 = w3.alloc (.cells #[.int .i64 0, .int .i64 0, .int .i64 0, .bool false, .int .i64 0] 32) := ⟨_, rfl⟩
        have hA : Below w3.heap.size w3 x3 := by rw [hx3]; exact (Below.refl _ w3).alloc (Nat.le_refl _) _
        have hV := MvAt.new w3 0 0 0 0 false
        rw [← hx3] at hV ⊢
        have lt_P := P.out.lt
        have gg_D := D.out.size
        have D := Lib.hid (below_on D.out hA)
        have P := Lib.hid (P.out.below hA P.out.lt)
        obtain ⟨b_U, hbf⟩ : ∃ b, b = w3.heap.size := ⟨_, rfl⟩
        rw [← hbf] at hV ⊢
        have n_P_U := Lib.hid (show b_P ≠ b_U by omega)
        clear lt_P
        have g_U_D := Lib.hid (show w1.heap.size ≤ b_U by rw [hbf]; exact gg_D)
        clear gg_D
        have U := Lib.hid hV
        clear hV hA hx3 hbf
        have c_P := P.out
        have P0 := c_P.c0
        have P1 := c_P.c1
        clear c_P
        have c_U := U.out
        have U0 := c_U.c0
        have U1 := c_U.c1
        have U2 := c_U.c2
        have U3 := c_U.c3
        have U4 := c_U.c4
        clear c_U
        go_upto_region 11 with fail
        go_wp2_with fail
        refine (k2 _ D.out).mono ?_
        rintro e w4 ⟨rfl, hb⟩
        clear P0 P1 U0 U1 U2 U3 U4
        have D := Lib.hid (below_on D.out hb)
        have P := Lib.hid (P.out.below hb P.out.lt)
        have U := Lib.hid (U.out.below hb U.out.lt)
        clear hb k2
        go_upto_region 12 with fail
        obtain ⟨x4, hx4⟩ : ∃ x4, x4 = w4.alloc (.cells #[.int .i64 0, .int .i64 0, .int .i64 0, .bool false, .int .i64 0] 32) := ⟨_, rfl⟩
        have hA : Below w4.heap.size w4 x4 := by rw [hx4]; exact (Below.refl _ w4).alloc (Nat.le_refl _) _
        have hV := MvAt.new w4 0 0 0 0 false
        rw [← hx4] at hV ⊢
        have lt_P := P.out.lt
        have lt_U := U.out.lt
        have gg_D := D.out.size
        have D := Lib.hid (below_on D.out hA)
        have P := Lib.hid (P.out.below hA P.out.lt)
        have U := Lib.hid (U.out.below hA U.out.lt)
        obtain ⟨b_V, hbf⟩ : ∃ b, b = w4.heap.size := ⟨_, rfl⟩
        rw [← hbf] at hV ⊢
        have n_P_V := Lib.hid (show b_P ≠ b_V by omega)
        clear lt_P
        have n_U_V := Lib.hid (show b_U ≠ b_V by omega)
        clear lt_U
        have g_V_D := Lib.hid (show w1.heap.size ≤ b_V by rw [hbf]; exact gg_D)
        clear gg_D
        have V := Lib.hid hV
        clear hV hA hx4 hbf
        have c_P := P.out
        have P0 := c_P.c0
        have P1 := c_P.c1
        clear c_P
        have c_U := U.out
        have U0 := c_U.c0
        have U1 := c_U.c1
        have U2 := c_U.c2
        have U3 := c_U.c3
        have U4 := c_U.c4
        clear c_U
        have c_V := V.out
        have V0 := c_V.c0
        have V1 := c_V.c1
        have V2 := c_V.c2
        have V3 := c_V.c3
        have V4 := c_V.c4
        clear c_V
        go_upto_region 14 with fail
        go_wp2_with fail
        refine (k3 _ D.out).mono ?_
        rintro e w5 ⟨rfl, hb⟩
        clear P0 P1 U0 U1 U2 U3 U4 V0 V1 V2 V3 V4
        have D := Lib.hid (below_on D.out hb)
        have P := Lib.hid (P.out.below hb P.out.lt)
        have U := Lib.hid (U.out.below hb U.out.lt)
        have V := Lib.hid (V.out.below hb V.out.lt)
        clear hb k3
        go_upto_region 15 with fail
        obtain ⟨x5, hx5⟩ : ∃ x5, x5 = w5.alloc (.cells #[.int .i64 (i : Int), .int .i64 E3, .int .i64 0, .bool false, .int .i64 (-1)] 32) := ⟨_, rfl⟩
        have hA : Below w5.heap.size w5 x5 := by rw [hx5]; exact (Below.refl _ w5).alloc (Nat.le_refl _) _
        have hV := MvAt.new w5 (i : Int) E3 0 (-1) false
        rw [← hx5] at hV ⊢
        have lt_P := P.out.lt
        have lt_U := U.out.lt
        have lt_V := V.out.lt
        have gg_D := D.out.size
        have D := Lib.hid (below_on D.out hA)
        have P := Lib.hid (P.out.below hA P.out.lt)
        have U := Lib.hid (U.out.below hA U.out.lt)
        have V := Lib.hid (V.out.below hA V.out.lt)
        obtain ⟨b_Z, hbf⟩ : ∃ b, b = w5.heap.size := ⟨_, rfl⟩
        rw [← hbf] at hV ⊢
        have n_P_Z := Lib.hid (show b_P ≠ b_Z by omega)
        clear lt_P
        have n_U_Z := Lib.hid (show b_U ≠ b_Z by omega)
        clear lt_U
        have n_V_Z := Lib.hid (show b_V ≠ b_Z by omega)
        clear lt_V
        have g_Z_D := Lib.hid (show w1.heap.size ≤ b_Z by rw [hbf]; exact gg_D)
        clear gg_D
        have Z := Lib.hid hV
        clear hV hA hx5 hbf
        have c_P := P.out
        have P0 := c_P.c0
        have P1 := c_P.c1
        clear c_P
        have c_U := U.out
        have U0 := c_U.c0
        have U1 := c_U.c1
        have U2 := c_U.c2
        have U3 := c_U.c3
        have U4 := c_U.c4
        clear c_U
        have c_V := V.out
        have V0 := c_V.c0
        have V1 := c_V.c1
        have V2 := c_V.c2
        have V3 := c_V.c3
        have V4 := c_V.c4
        clear c_V
        have c_Z := Z.out
        have Z0 := c_Z.c0
        have Z1 := c_Z.c1
        have Z2 := c_Z.c2
        have Z3 := c_Z.c3
        have Z4 := c_Z.c4
        clear c_Z
        go_wp2
        go_ret
        exact ⟨rfl, below_on HB1.out D.out⟩
      · rw [if_neg h0] at k1
        unfold R.no at k1
        rw [if_neg hA] at k2
        unfold R.no at k2
        rw [if_neg hB] at k3
        unfold R.no at k3
        have b2 : ¬ (m : Int) < (s.size : Int) - 1 := by omega
        clear hA hm hi
        go_wp2_with fail
        refine (k1 _ D.out).mono ?_
        rintro e w3 ⟨rfl, hb⟩
        clear P0 P1
        have D := Lib.hid (below_on D.out hb)
        have P := Lib.hid (P.out.below hb P.out.lt)
        clear hb k1
        go_upto_region 9 with fail
        obtain ⟨x3, hx3⟩ : ∃ x3, x3 = w3.alloc (.cells #[.int .i64 0, .int .i64 0, .int .i64 0, .bool false, .int .i64 0] 32) := ⟨_, rfl⟩
        have hA : Below w3.heap.size w3 x3 := by rw [hx3]; exact (Below.refl _ w3).alloc (Nat.le_refl _) _
        have hV := MvAt.new w3 0 0 0 0 false
        rw [← hx3] at hV ⊢
        have lt_P := P.out.lt
        have gg_D := D.out.size
        have D := Lib.hid (below_on D.out hA)
        have P := Lib.hid (P.out.below hA P.out.lt)
        obtain ⟨b_U, hbf⟩ : ∃ b, b = w3.heap.size := ⟨_, rfl⟩
        rw [← hbf] at hV ⊢
        have n_P_U := Lib.hid (show b_P ≠ b_U by omega)
        clear lt_P
        have g_U_D := Lib.hid (show w1.heap.size ≤ b_U by rw [hbf]; exact gg_D)
        clear gg_D
        have U := Lib.hid hV
        clear hV hA hx3 hbf
        have c_P := P.out
        have P0 := c_P.c0
        have P1 := c_P.c1
        clear c_P
        have c_U := U.out
        have U0 := c_U.c0
        have U1 := c_U.c1
        have U2 := c_U.c2
        have U3 := c_U.c3
        have U4 := c_U.c4
        clear c_U
        go_upto_region 11 with fail
        go_wp2_with fail
        refine (k2 _ D.out).mono ?_
        rintro e w4 ⟨rfl, hb⟩
        clear P0 P1 U0 U1 U2 U3 U4
        have D := Lib.hid (below_on D.out hb)
        have P := Lib.hid (P.out.below hb P.out.lt)
        have U := Lib.hid (U.out.below hb U.out.lt)
        clear hb k2
        go_upto_region 12 with fail
        obtain ⟨x4, hx4⟩ : ∃ x4, x4 = w4.alloc (.cells #[.int .i64 0, .int .i64 0, .int .i64 0, .bool false, .int .i64 0] 32) := ⟨_, rfl⟩
        have hA : Below w4.heap.size w4 x4 := by rw [hx4]; exact (Below.refl _ w4).alloc (Nat.le_refl _) _
        have hV := MvAt.new w4 0 0 0 0 false
        rw [← hx4] at hV ⊢
        have lt_P := P.out.lt
        have lt_U := U.out.lt
        have gg_D := D.out.size
        have D := Lib.hid (below_on D.out hA)
        have P := Lib.hid (P.out.below hA P.out.lt)
        have U := Lib.hid (U.out.below hA U.out.lt)
        obtain ⟨b_V, hbf⟩ : ∃ b, b = w4.heap.size := ⟨_, rfl⟩
        rw [← hbf] at hV ⊢
        have n_P_V := Lib.hid (show b_P ≠ b_V by omega)
        clear lt_P
        have n_U_V := Lib.hid (show b_U ≠ b_V by omega)
        clear lt_U
        have g_V_D := Lib.hid (show w1.heap.size ≤ b_V by rw [hbf]; exact gg_D)
        clear gg_D
        have V := Lib.hid hV
        clear hV hA hx4 hbf
        have c_P := P.out
        have P0 := c_P.c0
        have P1 := c_P.c1
        clear c_P
        have c_U := U.out
        have U0 := c_U.c0
        have U1 := c_U.c1
        have U2 := c_U.c2
        have U3 := c_U.c3
        have U4 := c_U.c4
        clear c_U
        have c_V := V.out
        have V0 := c_V.c0
        have V1 := c_V.c1
        have V2 := c_V.c2
        have V3 := c_V.c3
        have V4 := c_V.c4
        clear c_V
        go_upto_region 14 with fail
        go_wp2_with fail
        refine (k3 _ D.out).mono ?_
        rintro e w5 ⟨rfl, hb⟩
        clear P0 P1 U0 U1 U2 U3 U4 V0 V1 V2 V3 V4
        have D := Lib.hid (below_on D.out hb)
        have P := Lib.hid (P.out.below hb P.out.lt)
        have U := Lib.hid (U.out.below hb U.out.lt)
        have V := Lib.hid (V.out.below hb V.out.lt)
        clear hb k3
        go_upto_region 15 with fail
        obtain ⟨x5, hx5⟩ : ∃ x5, x5 = w5.alloc (.cells #[.int .i64 0, .int .i64 0, .int .i64 0, .bool false, .int .i64 0] 32) := ⟨_, rfl⟩
        have hA : Below w5.heap.size w5 x5 := by rw [hx5]; exact (Below.refl _ w5).alloc (Nat.le_refl _) _
        have hV := MvAt.new w5 0 0 0 0 false
        rw [← hx5] at hV ⊢
        have lt_P := P.out.lt
        have lt_U := U.out.lt
        have lt_V := V.out.lt
        have gg_D := D.out.size
        have D := Lib.hid (below_on D.out hA)
        have P := Lib.hid (P.out.below hA P.out.lt)
        have U := Lib.hid (U.out.below hA U.out.lt)
        have V := Lib.hid (V.out.below hA V.out.lt)
        obtain ⟨b_Z, hbf⟩ : ∃ b, b = w5.heap.size := ⟨_, rfl⟩
        rw [← hbf] at hV ⊢
        have n_P_Z := Lib.hid (show b_P ≠ b_Z by omega)
        clear lt_P
        have n_U_Z := Lib.hid (show b_U ≠ b_Z by omega)
        clear lt_U
        have n_V_Z := Lib.hid (show b_V ≠ b_Z by omega)
        clear lt_V
        have g_Z_D := Lib.hid (show w1.heap.size ≤ b_Z by rw [hbf]; exact gg_D)
        clear gg_D
        have Z := Lib.hid hV
        clear hV hA hx5 hbf
        have c_P := P.out
        have P0 := c_P.c0
        have P1 := c_P.c1
        clear c_P
        have c_U := U.out
        have U0 := c_U.c0
        have U1 := c_U.c1
        have U2 := c_U.c2
        have U3 := c_U.c3
        have U4 := c_U.c4
        clear c_U
        have c_V := V.out
        have V0 := c_V.c0
        have V1 := c_V.c1
        have V2 := c_V.c2
        have V3 := c_V.c3
        have V4 := c_V.c4
        clear c_V
        have c_Z := Z.out
        have Z0 := c_Z.c0
        have Z1 := c_Z.c1
        have Z2 := c_Z.c2
        have Z3 := c_Z.c3
        have Z4 := c_Z.c4
        clear c_Z
        go_wp2
        go_ret
        exact ⟨rfl, below_on HB1.out D.out⟩
end Go.Proofs.Ytaekgempoaoioaa.HEd
