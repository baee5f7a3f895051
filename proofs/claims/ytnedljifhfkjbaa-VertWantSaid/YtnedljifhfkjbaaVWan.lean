/-
  The law VertWant, walked.
-/
import Derived.Test.YtnedljifhfkjbaaVk
set_option linter.unusedVariables false
set_option linter.unusedSimpArgs false
set_option maxRecDepth 100000
namespace Go.Proofs.Ytnedljifhfkjbaa.VWan
open Go Go.RowKit Go.Proofs.Ytnedljifhfkjbaa.Vk Go.Proofs.Ytnedljifhfkjbaa.Str Go.Proofs.Ytnedljifhfkjbaa.Ln Go.Proofs.Ytnedljifhfkjbaa.Cl Go.Proofs.Ytnedljifhfkjbaa.Mv Go.Proofs.Ytnedljifhfkjbaa.Vt
attribute [local go_sem] Oper.semAt_some
set_option maxHeartbeats 4000000

theorem want_no {ls : List ByteArray} {l q : Int} (h : (ls.length : Int) ≤ l) : wantR ls l q = R.no := if_neg (by omega)
theorem want_in {ls : List ByteArray} {j : Nat} {q : Int} (h : j < ls.length) (hq : 0 ≤ q ∧ q ≤ 255) : wantR ls j q = ⟨j, min q ((lineAt ls j).size - 1 : Nat), 2, false, q, true⟩ := by
  unfold wantR
  rw [if_pos (by omega), show max q 0 = q by omega, show min q 1073741824 = q by omega, Int.toNat_natCast]

theorem walk (a : Option Addr) (n c' : Nat) (ls : List ByteArray) (x y wt q : Int) (w : World) (h : Ss w a n c' ls) (hs : ∀ s ∈ ls, s.size ≤ 140737488355328) (hx : (Lit.int .u16 x).wf = true) (hy : (Lit.int .u16 y).wf = true) (hwt : (Lit.int .u8 wt).wf = true) (hq0 : (Lit.int .u8 q).wf = true) :
    Calls Try.prog 5 #[.slice a n c', .int .u16 x, .int .u16 y, .int .u8 wt, .int .u8 q] w fun e w' => e = .returned (.bool true) ∧ Below w.heap.size w w' := by
  have hk := known_any w
  have x2 : 0 ≤ x ∧ x ≤ 65535 := by simpa [Lit.wf, IntKind.min, IntKind.max, IntKind.signed, IntKind.bits] using hx
  have y2 : 0 ≤ y ∧ y ≤ 65535 := by simpa [Lit.wf, IntKind.min, IntKind.max, IntKind.signed, IntKind.bits] using hy
  have q2 : 0 ≤ q ∧ q ≤ 255 := by simpa [Lit.wf, IntKind.min, IntKind.max, IntKind.signed, IntKind.bits] using hq0
  have v2 : 0 ≤ wt ∧ wt ≤ 255 := by simpa [Lit.wf, IntKind.min, IntKind.max, IntKind.signed, IntKind.bits] using hwt
  go_enter Try.func5, Try.ntmps5
  go_wp2_with fail
  refine hk.mono ?_
  rintro e w1 ⟨rfl, hb1⟩
  have htx := text_any a n c' ls w1 (SrcV.below h hb1) hs
  have HS1 := Lib.hid (SrcV.below h hb1)
  have HB1 := Lib.hid hb1
  clear hk hb1 h
  go_wp2_with fail
  refine htx.mono ?_
  rintro e w' ⟨qq, rfl, rfl, hq⟩
  clear htx
  cases qq
  · clear hq
    go_wp2
    go_ret
    exact ⟨rfl, HB1.out⟩
  obtain ⟨hn0, hn40, hz, _⟩ := hq rfl
  clear hq
  have hse := seat_any a n c' ls x y w1 HS1.out hn0 hs x2 y2
  go_wp2_with fail
  refine hse.mono ?_
  rintro e w2 ⟨⟨i, m, rfl, hi, hm⟩, hb2⟩
  have D := Lib.hid hb2
  clear hse hb2
  go_upto_region 6 with fail
  obtain ⟨x2, hx2⟩ : ∃ x2, x2 = w2.alloc (.cells #[.int .i64 (i : Int), .int .i64 (m : Int)] 24) := ⟨_, rfl⟩
  have hA : Below w2.heap.size w2 x2 := by rw [hx2]; exact (Below.refl _ w2).alloc (Nat.le_refl _) _
  have hV := PosAt.new w2 (i : Int) (m : Int)
  rw [← hx2] at hV ⊢
  have gg_D := D.out.size
  have D := Lib.hid (below_on D.out hA)
  obtain ⟨b_P, hbf⟩ : ∃ b, b = w2.heap.size := ⟨_, rfl⟩
  rw [← hbf] at hV ⊢
  have g_P_D := Lib.hid (show w1.heap.size ≤ b_P by rw [hbf]; exact gg_D)
  clear gg_D
  have P := Lib.hid hV
  clear hV hA hx2 hbf
  have c_P := P.out
  have P0 := c_P.c0
  have P1 := c_P.c1
  clear c_P
  have hlen := Ss.length HS1.out
  have hP : Plc ls (i : Int) (m : Int) := (plc_nat (by omega)).2 hm
  have hin : lineAt ls i ∈ ls := by rw [lineAt_get (by omega)]; exact List.getElem_mem _
  have hsz : (lineAt ls i).size + 1 ≤ tz ls := tz_mem _ _ hin
  obtain ⟨bs, os, ha, hcell, hnc, _⟩ := Ss.read HS1.out i (by omega)
  rw [← lineAt_get (by omega)] at hcell
  subst ha
  have hcl := fun W (hW : Below w1.heap.size w1 W) => cell_later hW hcell
  obtain ⟨K, hK⟩ : ∃ K, K = q % 10 + 1 := ⟨_, rfl⟩
  have ew0 : IntKind.u8.wrap (q.tmod 10) = q % 10 := by
    have h1 := Int.tmod_eq_emod_of_nonneg (b := 10) q2.1
    simp [IntKind.wrap, IntKind.bits, IntKind.signed]; omega
  have ew01 : IntKind.u8.wrap (q % 10) = q % 10 := by
    simp [IntKind.wrap, IntKind.bits, IntKind.signed]; omega
  have ew1 : IntKind.i64.wrap (q % 10) = q % 10 := by rw [IntKind.wrap_i64]; omega
  have ew2 : IntKind.i64.wrap (q % 10 + 1) = K := by rw [IntKind.wrap_i64]; omega
  have ew3 : IntKind.i64.wrap wt = wt := by rw [IntKind.wrap_i64]; omega
  have hK2 : 1 ≤ K ∧ K ≤ 10 := by omega
  have hKm : min K 1073741824 = K := by omega
  obtain ⟨Z, hZ⟩ : ∃ Z, Z = (n : Int) - (i : Int) := ⟨_, rfl⟩
  have eZ : IntKind.i64.wrap ((n : Int) - (i : Int)) = Z := by rw [IntKind.wrap_i64]; omega
  have c1 := fun W (hW : Below w1.heap.size w1 W) => down_any _ n c' ls i m K wt W (SrcV.below HS1.out hW) hs (by omega)
  rw [hKm] at c1
  rw [show mayR ls i m K (wantR ls ((i : Int) + K) wt) = wantR ls ((i : Int) + K) wt from if_pos ⟨hP, hK2.1⟩] at c1
  clear hcell hnc hK
  by_cases hZK : Z ≤ K
  · have d1 : decide (Z ≤ K) = true := decide_eq_true hZK
    rw [want_no (by omega)] at c1
    unfold R.no at c1
    clear hZK hZ hcl hP hin hsz hm hi hz hlen hKm hK2
    go_upto_region 8 with fail
    go_wp2_with fail
    refine (c1 _ D.out).mono ?_
    rintro e w3 ⟨rfl, hb⟩
    clear P0 P1
    have D := Lib.hid (below_on D.out hb)
    have P := Lib.hid (P.out.below hb P.out.lt)
    clear hb c1
    go_upto_region 9 with fail
    obtain ⟨x3, hx3⟩ : ∃ x3, x3 = w3.alloc (.cells #[.int .i64 0, .int .i64 0, .int .i64 0, .bool false, .int .i64 0] 32) := ⟨_, rfl⟩
    have hA : Below w3.heap.size w3 x3 := by rw [hx3]; exact (Below.refl _ w3).alloc (Nat.le_refl _) _
    have hV := MvAt.new w3 0 0 0 0 false
    rw [← hx3] at hV ⊢
    have lt_P := P.out.lt
    have gg_D := D.out.size
    have D := Lib.hid (below_on D.out hA)
    have P := Lib.hid (P.out.below hA P.out.lt)
    obtain ⟨b_V, hbf⟩ : ∃ b, b = w3.heap.size := ⟨_, rfl⟩
    rw [← hbf] at hV ⊢
    have n_P_V := Lib.hid (show b_P ≠ b_V by omega)
    clear lt_P
    have g_V_D := Lib.hid (show w1.heap.size ≤ b_V by rw [hbf]; exact gg_D)
    clear gg_D
    have V := Lib.hid hV
    clear hV hA hx3 hbf
    have c_P := P.out
    have P0 := c_P.c0
    have P1 := c_P.c1
    clear c_P
    have c_V := V.out
    have V0 := c_V.c0
    have V1 := c_V.c1
    have V2 := c_V.c2
    have V3 := c_V.c3
    have V4 := c_V.c4
    clear c_V
    go_wp2
    go_ret
    exact ⟨rfl, below_on HB1.out D.out⟩
  · have d1 : decide (Z ≤ K) = false := decide_eq_false hZK
    obtain ⟨J, hJ⟩ : ∃ J : Nat, (i : Int) + K = J := ⟨((i : Int) + K).toNat, by omega⟩
    have hJn : J < ls.length := by omega
    rw [hJ, want_in hJn v2] at c1
    obtain ⟨C1, hC1⟩ : ∃ C, C = min wt ((lineAt ls J).size - 1 : Nat) := ⟨_, rfl⟩
    rw [← hC1] at c1
    have hP2 : Plc ls (J : Int) C1 := ⟨by omega, by omega, by omega, by rw [Int.toNat_natCast]; omega⟩
    have c2 := fun W (hW : Below w1.heap.size w1 W) => up_any _ n c' ls J C1 K wt W (SrcV.below HS1.out hW) hs (by omega)
    rw [hKm, show (J : Int) - K = (i : Int) by omega] at c2
    rw [show mayR ls J C1 K (wantR ls i wt) = wantR ls i wt from if_pos ⟨hP2, hK2.1⟩] at c2
    rw [want_in (by omega) v2] at c2
    clear hP2 hC1 hJ hJn hZK hZ hP hin hm hKm hK2
    generalize lineAt ls i = s at *
    obtain ⟨T, hT⟩ : ∃ T : Nat, T = s.size - 1 := ⟨_, rfl⟩
    rw [← hT] at c2
    obtain ⟨C2, hC2⟩ : ∃ C, C = min wt (T : Int) := ⟨_, rfl⟩
    rw [← hC2] at c2
    have e1 : (if (T : Int) < wt then (T : Int) else wt) = C2 := by omega
    have e2 : min wt (T : Int) = C2 := hC2.symm
    have e3 : IntKind.i64.wrap ((s.size : Int) - 1) = (s.size : Int) - 1 := by rw [IntKind.wrap_i64]; omega
    have e4 : (if (s.size : Int) - 1 < 0 then 0 else (s.size : Int) - 1) = T := by omega
    have e5 : max ((s.size : Int) - 1) 0 = T := by omega
    clear hC2 hT hsz hlen hz
    go_upto_region 10 with fail
    go_wp2_with fail
    refine (c1 _ D.out).mono ?_
    rintro e w3 ⟨rfl, hb⟩
    clear P0 P1
    have D := Lib.hid (below_on D.out hb)
    have P := Lib.hid (P.out.below hb P.out.lt)
    clear hb c1
    go_upto_region 11 with fail
    obtain ⟨x3, hx3⟩ : ∃ x3, x3 = w3.alloc (.cells #[.int .i64 (J : Int), .int .i64 C1, .int .i64 2, .bool false, .int .i64 wt] 32) := ⟨_, rfl⟩
    have hA : Below w3.heap.size w3 x3 := by rw [hx3]; exact (Below.refl _ w3).alloc (Nat.le_refl _) _
    have hV := MvAt.new w3 (J : Int) C1 2 wt false
    rw [← hx3] at hV ⊢
    have lt_P := P.out.lt
    have gg_D := D.out.size
    have D := Lib.hid (below_on D.out hA)
    have P := Lib.hid (P.out.below hA P.out.lt)
    obtain ⟨b_V, hbf⟩ : ∃ b, b = w3.heap.size := ⟨_, rfl⟩
    rw [← hbf] at hV ⊢
    have n_P_V := Lib.hid (show b_P ≠ b_V by omega)
    clear lt_P
    have g_V_D := Lib.hid (show w1.heap.size ≤ b_V by rw [hbf]; exact gg_D)
    clear gg_D
    have V := Lib.hid hV
    clear hV hA hx3 hbf
    have c_P := P.out
    have P0 := c_P.c0
    have P1 := c_P.c1
    clear c_P
    have c_V := V.out
    have V0 := c_V.c0
    have V1 := c_V.c1
    have V2 := c_V.c2
    have V3 := c_V.c3
    have V4 := c_V.c4
    clear c_V
    go_wp2_with fail
    refine (c2 _ D.out).mono ?_
    rintro e w4 ⟨rfl, hb⟩
    clear P0 P1 V0 V1 V2 V3 V4
    have D := Lib.hid (below_on D.out hb)
    have P := Lib.hid (P.out.below hb P.out.lt)
    have V := Lib.hid (V.out.below hb V.out.lt)
    clear hb c2
    go_upto_region 12 with fail
    obtain ⟨x4, hx4⟩ : ∃ x4, x4 = w4.alloc (.cells #[.int .i64 (i : Int), .int .i64 C2, .int .i64 2, .bool false, .int .i64 wt] 32) := ⟨_, rfl⟩
    have hA : Below w4.heap.size w4 x4 := by rw [hx4]; exact (Below.refl _ w4).alloc (Nat.le_refl _) _
    have hV := MvAt.new w4 (i : Int) C2 2 wt false
    rw [← hx4] at hV ⊢
    have lt_P := P.out.lt
    have lt_V := V.out.lt
    have gg_D := D.out.size
    have D := Lib.hid (below_on D.out hA)
    have P := Lib.hid (P.out.below hA P.out.lt)
    have V := Lib.hid (V.out.below hA V.out.lt)
    obtain ⟨b_U, hbf⟩ : ∃ b, b = w4.heap.size := ⟨_, rfl⟩
    rw [← hbf] at hV ⊢
    have n_P_U := Lib.hid (show b_P ≠ b_U by omega)
    clear lt_P
    have n_V_U := Lib.hid (show b_V ≠ b_U by omega)
    clear lt_V
    have g_U_D := Lib.hid (show w1.heap.size ≤ b_U by rw [hbf]; exact gg_D)
    clear gg_D
    have U := Lib.hid hV
    clear hV hA hx4 hbf
    have c_P := P.out
    have P0 := c_P.c0
    have P1 := c_P.c1
    clear c_P
    have c_V := V.out
    have V0 := c_V.c0
    have V1 := c_V.c1
    have V2 := c_V.c2
    have V3 := c_V.c3
    have V4 := c_V.c4
    clear c_V
    have c_U := U.out
    have U0 := c_U.c0
    have U1 := c_U.c1
    have U2 := c_U.c2
    have U3 := c_U.c3
    have U4 := c_U.c4
    clear c_U
    have hc := hcl _ D.out
    clear hcl
    have f_P0 := fun z : Gr x4 => z.cell P0
    have f_V4 := fun z : Gr x4 => z.cell V4
    have f_U4 := fun z : Gr x4 => z.cell U4
    have f_U0 := fun z : Gr x4 => z.cell U0
    have f_U1 := fun z : Gr x4 => z.cell U1
    have f_hc := fun z : Gr x4 => z.cell hc
    clear P0 P1 V0 V1 V2 V3 V4 U0 U1 U2 U3 U4
    clear hc
    refine wp_region_grow (by kernel_rfl) (by kernel_rfl) ?_
    repeat (go_big_quiet_step (fail))
    refine wpQuiet_nil ?_
    rintro w5 ⟨⟨_, hb_w5⟩, rfl⟩
    have D := Lib.hid (below_on D.out hb_w5)
    clear hb_w5 f_P0 f_V4 f_U4 f_U0 f_U1 f_hc
    go_wp2
    go_ret
    exact ⟨rfl, below_on HB1.out D.out⟩
end Go.Proofs.Ytnedljifhfkjbaa.VWan
