/-
  The law VertWindow, walked.
-/
import Derived.Test.YtnedljifhfkjbaaVk
set_option linter.unusedVariables false
set_option linter.unusedSimpArgs false
set_option maxRecDepth 100000
namespace Go.Proofs.Ytnedljifhfkjbaa.VWin
open Go Go.RowKit Go.Proofs.Ytnedljifhfkjbaa.Vk Go.Proofs.Ytnedljifhfkjbaa.Str Go.Proofs.Ytnedljifhfkjbaa.Ln Go.Proofs.Ytnedljifhfkjbaa.Cl Go.Proofs.Ytnedljifhfkjbaa.Mv Go.Proofs.Ytnedljifhfkjbaa.Vt
attribute [local go_sem] Oper.semAt_some
set_option maxHeartbeats 4000000

theorem plc_zero {ls : List ByteArray} (h : 0 < ls.length) : Plc ls 0 0 := ⟨by omega, by omega, by omega, by omega⟩
theorem line_in {ls : List ByteArray} {D : Int} (h : 0 ≤ D ∧ D < ls.length) : ∃ c, lineR ls D true = ⟨D, c, 2, true, -1, true⟩ := ⟨_, if_pos h⟩
theorem scr_in {ls : List ByteArray} {T y K H D : Int} (h0 : 0 ≤ T) (hT : T < ls.length) (hK : 1 ≤ K) (hH : H = min (ls.length - T) 10)
    (h : (y = 72 ∧ D = T + min K H - 1) ∨ (y = 76 ∧ D = T + H - min K H) ∨ (y = 77 ∧ D = T + (H - 1) / 2)) : ∃ c, scrR ls 0 0 T y K = ⟨D, c, 2, true, -1, true⟩ := by
  rw [scrR_in (plc_zero (by omega)) hK (by omega), show max T 0 = T by omega, ← hH]
  unfold winR
  rcases h with ⟨rfl, rfl⟩ | ⟨rfl, rfl⟩ | ⟨rfl, rfl⟩
  · rw [if_pos rfl]; exact line_in (by omega)
  · rw [if_neg (by decide), if_pos rfl]; exact line_in (by omega)
  · rw [if_neg (by decide), if_neg (by decide), if_pos rfl]; exact line_in (by omega)

theorem ar_U {T n H U : Int} (hH : H = min (n - T) 10) (hU : U = min (T + 10) n) : U = T + H := by omega
theorem ar_h {T K H M : Int} (hM : M = min K H) : (if T + H - 1 < T + K - 1 then T + H - 1 else T + K - 1) = T + M - 1 := by
  rcases Int.le_total K H with h | h
  · rw [Int.min_eq_left h] at hM; rw [if_neg (by omega), hM]
  · rw [Int.min_eq_right h] at hM; split <;> omega
theorem ar_l {T K H M : Int} (hM : M = min K H) : (if T + H - 1 - K + 1 < T then T else T + H - 1 - K + 1) = T + H - M := by
  rcases Int.le_total K H with h | h
  · rw [Int.min_eq_left h] at hM; rw [if_neg (by omega)]; omega
  · rw [Int.min_eq_right h] at hM; split <;> omega
theorem ar_m {T H m : Int} (h : 1 ≤ H) (hm : m = T + (H - 1) / 2) : T ≤ m ∧ m ≤ T + H - 1 ∧ m - T ≤ T + H - 1 - m ∧ T + H - 1 - m - (m - T) ≤ 1 := by omega
theorem wr {x : Int} (h1 : -1000000 ≤ x) (h2 : x ≤ 1000000) : IntKind.i64.wrap x = x := by rw [IntKind.wrap_i64]; omega
theorem mod_in {tp T : Int} {n : Nat} (hn : 0 < n) (h : 0 ≤ tp) (hT : T = tp.tmod n) : 0 ≤ T ∧ T < (n : Int) := by
  have h1 := Int.tmod_lt_of_pos tp (b := (n : Int)) (by omega)
  have h2 := Int.tmod_nonneg (n : Int) h
  omega
theorem mod12 {q : Int} (h1 : 0 ≤ q) (h2 : q ≤ 255) : IntKind.u8.wrap (q.tmod 12) = q % 12 ∧ IntKind.u8.wrap (q % 12) = q % 12 ∧ IntKind.i64.wrap (q % 12) = q % 12 := by
  have h3 := Int.tmod_eq_emod_of_nonneg (b := 12) h1
  rw [h3]
  refine ⟨?_, ?_, wr (by omega) (by omega)⟩ <;> (simp [IntKind.wrap, IntKind.bits, IntKind.signed]; omega)
theorem win {T K n H M U Z A B hl ml ll P1 P2 P3 : Int} (hn : n ≤ 40) (hT0 : 0 ≤ T) (hT1 : T < n) (hK1 : 1 ≤ K) (hK2 : K ≤ 12) (hH : H = min (n - T) 10) (hM : M = min K H) (hU : U = min (T + 10) n)
    (hhl : hl = T + M - 1) (hml : ml = T + (H - 1) / 2) (hll : ll = T + H - M) (hZ : Z = T + H - 1) (hA : A = T + K - 1) (hB : B = Z - K + 1) (hP1 : P1 = ml - T) (hP2 : P2 = Z - ml) (hP3 : P3 = P2 - P1) :
    IntKind.i64.wrap (T + 10) = T + 10 ∧ (if n < T + 10 then n else T + 10) = U ∧ IntKind.i64.wrap (U - 1) = Z ∧ IntKind.i64.wrap (T + K) = T + K ∧ IntKind.i64.wrap (T + K - 1) = A ∧
    (if Z < A then Z else A) = hl ∧ IntKind.i64.wrap (Z - K) = Z - K ∧ IntKind.i64.wrap (Z - K + 1) = B ∧ (if B < T then T else B) = ll ∧ T ≤ ml ∧ ml ≤ Z ∧ IntKind.i64.wrap (ml - T) = P1 ∧ IntKind.i64.wrap (Z - ml) = P2 ∧
    P1 ≤ P2 ∧ IntKind.i64.wrap (P2 - P1) = P3 ∧ P3 ≤ 1 := by
  have hU2 := ar_U hH hU
  have hu : (if n < T + 10 then n else T + 10) = U := by rw [hU]; split <;> omega
  have hH2 : 1 ≤ H ∧ H ≤ 10 := by omega
  clear hH hU
  obtain ⟨y1, y2, y3, y4⟩ := ar_m hH2.1 hml
  have z1 := ar_h (T := T) hM
  have z2 := ar_l (T := T) hM
  clear hM hml
  subst hP3
  subst hP1
  subst hP2
  subst hB
  subst hA
  subst hZ
  subst hhl
  subst hll
  have hn2 : n ≤ 1000 := by omega
  have hT2 : T ≤ 1000 := by omega
  refine ⟨wr ?_ ?_, hu, by rw [hU2]; clear z1 z2 hu; exact wr (by omega) (by omega), wr ?_ ?_, wr ?_ ?_, z1, wr ?_ ?_, wr ?_ ?_, z2, y1, y2, wr ?_ ?_, wr ?_ ?_, y3, wr ?_ ?_, y4⟩
  all_goals clear z1 z2 hu
  all_goals omega
theorem min_if {a b c : Int} (h : (if b < a then b else a) = c) : min a b = c := by split at h <;> omega
theorem max_if {a b c : Int} (h : (if a < b then b else a) = c) : max a b = c := by split at h <;> omega
theorem ar_M {K H M : Int} (hM : M = min K H) (h1 : 1 ≤ K) (h2 : 1 ≤ H) : 1 ≤ M ∧ M ≤ H := by omega

theorem walk (a : Option Addr) (n c' : Nat) (ls : List ByteArray) (tp q : Int) (w : World) (h : Ss w a n c' ls) (hs : ∀ s ∈ ls, s.size ≤ 140737488355328) (htp : (Lit.int .u8 tp).wf = true) (hq0 : (Lit.int .u8 q).wf = true) :
    Calls Try.prog 7 #[.slice a n c', .int .u8 tp, .int .u8 q] w fun e w' => e = .returned (.bool true) ∧ Below w.heap.size w w' := by
  have hk := known_any w
  have x2 : 0 ≤ tp ∧ tp ≤ 255 := by simpa [Lit.wf, IntKind.min, IntKind.max, IntKind.signed, IntKind.bits] using htp
  have q2 : 0 ≤ q ∧ q ≤ 255 := by simpa [Lit.wf, IntKind.min, IntKind.max, IntKind.signed, IntKind.bits] using hq0
  go_enter Try.func7, Try.ntmps7
  go_wp2_with fail
  refine hk.mono ?_
  rintro e w1 ⟨rfl, hb1⟩
  have htx := text_any a n c' ls w1 (SrcV.below h hb1) hs
  have HS1 := Lib.hid (SrcV.below h hb1)
  have HB1 := Lib.hid hb1
  clear hk hb1 h
  go_wp2_with fail
  refine htx.mono ?_
  rintro e w' ⟨qq, rfl, rfl, hq⟩
  clear htx
  cases qq
  · clear hq
    go_wp2
    go_ret
    exact ⟨rfl, HB1.out⟩
  obtain ⟨hn0, hn40, hz, _⟩ := hq rfl
  clear hq
  have hlen := Ss.length HS1.out
  obtain ⟨T, hT⟩ : ∃ T, T = tp.tmod n := ⟨_, rfl⟩
  have hT2 := mod_in hn0 x2.1 hT
  have hn41 : (n : Int) ≤ 40 := by omega
  have hn6 : n ≤ 1000000 := by omega
  have hTb : T ≤ 9223372036854775807 := by omega
  have t1 : tp.tmod n = T := hT.symm
  have t2 : tp % (n : Int) = T := by rw [← Int.tmod_eq_emod_of_nonneg x2.1]; exact t1
  have t3 : IntKind.i64.wrap tp = tp := wr (by omega) (by omega)
  have t4 : IntKind.i64.wrap T = T := wr (by omega) (by omega)
  obtain ⟨ew0, ew01, ew1⟩ := mod12 q2.1 q2.2
  obtain ⟨K, hK⟩ : ∃ K, K = q % 12 + 1 := ⟨_, rfl⟩
  have hK2 : 1 ≤ K ∧ K ≤ 12 := by omega
  have ew2 : IntKind.i64.wrap (q % 12 + 1) = K := by rw [← hK]; exact wr (by omega) (by omega)
  obtain ⟨H, hH⟩ : ∃ H, H = min ((ls.length : Int) - T) 10 := ⟨_, rfl⟩
  obtain ⟨hl, hhl⟩ : ∃ D, D = T + min K H - 1 := ⟨_, rfl⟩
  obtain ⟨ml, hml⟩ : ∃ D, D = T + (H - 1) / 2 := ⟨_, rfl⟩
  obtain ⟨ll, hll⟩ : ∃ D, D = T + H - min K H := ⟨_, rfl⟩
  obtain ⟨ch, r1⟩ := scr_in (ls := ls) (y := 72) hT2.1 (by rw [hlen]; exact hT2.2) hK2.1 hH (.inl ⟨rfl, hhl⟩)
  obtain ⟨cm, r2⟩ := scr_in (ls := ls) (y := 77) hT2.1 (by rw [hlen]; exact hT2.2) hK2.1 hH (.inr (.inr ⟨rfl, hml⟩))
  obtain ⟨cb, r3⟩ := scr_in (ls := ls) (y := 76) hT2.1 (by rw [hlen]; exact hT2.2) hK2.1 hH (.inr (.inl ⟨rfl, hll⟩))
  rw [hlen] at hH
  have c1 := fun W (hW : Below w1.heap.size w1 W) => screen_any a n c' ls 0 0 T 72 K W (SrcV.below HS1.out hW) hs hn6 hTb
  have c2 := fun W (hW : Below w1.heap.size w1 W) => screen_any a n c' ls 0 0 T 77 K W (SrcV.below HS1.out hW) hs hn6 hTb
  have c3 := fun W (hW : Below w1.heap.size w1 W) => screen_any a n c' ls 0 0 T 76 K W (SrcV.below HS1.out hW) hs hn6 hTb
  rw [r1] at c1
  rw [r2] at c2
  rw [r3] at c3
  obtain ⟨M, hM⟩ : ∃ M, M = min K H := ⟨_, rfl⟩
  rw [← hM] at hhl hll
  obtain ⟨Z, hZ⟩ : ∃ Z, Z = T + H - 1 := ⟨_, rfl⟩
  obtain ⟨A, hA⟩ : ∃ A, A = T + K - 1 := ⟨_, rfl⟩
  obtain ⟨B, hB⟩ : ∃ B, B = Z - K + 1 := ⟨_, rfl⟩
  obtain ⟨P1, hP1⟩ : ∃ P, P = ml - T := ⟨_, rfl⟩
  obtain ⟨P2, hP2⟩ : ∃ P, P = Z - ml := ⟨_, rfl⟩
  obtain ⟨P3, hP3⟩ : ∃ P, P = P2 - P1 := ⟨_, rfl⟩
  obtain ⟨U, hU⟩ : ∃ U, U = min (T + 10) (n : Int) := ⟨_, rfl⟩
  obtain ⟨g1, g2, g4, g5, g6, g7, g9, g10, g11, y1, y2, g13, g14, y3, g15, y4⟩ := win hn41 hT2.1 hT2.2 hK2.1 hK2.2 hH hM hU hhl hml hll hZ hA hB hP1 hP2 hP3
  have g3 : min (T + 10) (n : Int) = U := hU.symm
  have g8 := min_if g7
  have g12 := max_if g11
  have d1 : decide (T ≤ ml) = true := decide_eq_true y1
  have d2 : decide (ml ≤ Z) = true := decide_eq_true y2
  have d3 : decide (P1 ≤ P2) = true := decide_eq_true y3
  have d4 : decide (P3 ≤ 1) = true := decide_eq_true y4
  have D := Lib.hid (Below.refl w1.heap.size w1)
  clear hT hK hH hM hU hhl hml hll r1 r2 r3 hZ hA hB hP1 hP2 hP3 hlen hK2 hT2 y1 y2 y3 y4 hn41 hn6 hTb
  go_upto_region 7 with fail
  go_wp2_with fail
  refine (c1 _ D.out).mono ?_
  rintro e v1 ⟨rfl, hb⟩
  have D := Lib.hid (below_on D.out hb)
  clear hb c1
  go_upto_region 8 with fail
  obtain ⟨y1, hy1⟩ : ∃ y1, y1 = v1.alloc (.cells #[.int .i64 hl, .int .i64 ch, .int .i64 2, .bool true, .int .i64 (-1)] 32) := ⟨_, rfl⟩
  have hA : Below v1.heap.size v1 y1 := by rw [hy1]; exact (Below.refl _ v1).alloc (Nat.le_refl _) _
  have hV := MvAt.new v1 hl ch 2 (-1) true
  rw [← hy1] at hV ⊢
  have gg_D := D.out.size
  have D := Lib.hid (below_on D.out hA)
  obtain ⟨b_V, hbf⟩ : ∃ b, b = v1.heap.size := ⟨_, rfl⟩
  rw [← hbf] at hV ⊢
  have g_V_D := Lib.hid (show w1.heap.size ≤ b_V by rw [hbf]; exact gg_D)
  clear gg_D
  have V := Lib.hid hV
  clear hV hA hy1 hbf
  have c_V := V.out
  have V0 := c_V.c0
  have V1 := c_V.c1
  have V2 := c_V.c2
  have V3 := c_V.c3
  have V4 := c_V.c4
  clear c_V
  go_wp2_with fail
  refine (c2 _ D.out).mono ?_
  rintro e v2 ⟨rfl, hb⟩
  clear V0 V1 V2 V3 V4
  have D := Lib.hid (below_on D.out hb)
  have V := Lib.hid (V.out.below hb V.out.lt)
  clear hb c2
  go_upto_region 9 with fail
  obtain ⟨y2, hy2⟩ : ∃ y2, y2 = v2.alloc (.cells #[.int .i64 ml, .int .i64 cm, .int .i64 2, .bool true, .int .i64 (-1)] 32) := ⟨_, rfl⟩
  have hA : Below v2.heap.size v2 y2 := by rw [hy2]; exact (Below.refl _ v2).alloc (Nat.le_refl _) _
  have hV := MvAt.new v2 ml cm 2 (-1) true
  rw [← hy2] at hV ⊢
  have lt_V := V.out.lt
  have gg_D := D.out.size
  have D := Lib.hid (below_on D.out hA)
  have V := Lib.hid (V.out.below hA V.out.lt)
  obtain ⟨b_M, hbf⟩ : ∃ b, b = v2.heap.size := ⟨_, rfl⟩
  rw [← hbf] at hV ⊢
  have n_V_M := Lib.hid (show b_V ≠ b_M by omega)
  clear lt_V
  have g_M_D := Lib.hid (show w1.heap.size ≤ b_M by rw [hbf]; exact gg_D)
  clear gg_D
  have M := Lib.hid hV
  clear hV hA hy2 hbf
  have c_V := V.out
  have V0 := c_V.c0
  have V1 := c_V.c1
  have V2 := c_V.c2
  have V3 := c_V.c3
  have V4 := c_V.c4
  clear c_V
  have c_M := M.out
  have M0 := c_M.c0
  have M1 := c_M.c1
  have M2 := c_M.c2
  have M3 := c_M.c3
  have M4 := c_M.c4
  clear c_M
  go_wp2_with fail
  refine (c3 _ D.out).mono ?_
  rintro e v3 ⟨rfl, hb⟩
  clear V0 V1 V2 V3 V4 M0 M1 M2 M3 M4
  have D := Lib.hid (below_on D.out hb)
  have V := Lib.hid (V.out.below hb V.out.lt)
  have M := Lib.hid (M.out.below hb M.out.lt)
  clear hb c3
  go_upto_region 10 with fail
  obtain ⟨y3, hy3⟩ : ∃ y3, y3 = v3.alloc (.cells #[.int .i64 ll, .int .i64 cb, .int .i64 2, .bool true, .int .i64 (-1)] 32) := ⟨_, rfl⟩
  have hA : Below v3.heap.size v3 y3 := by rw [hy3]; exact (Below.refl _ v3).alloc (Nat.le_refl _) _
  have hV := MvAt.new v3 ll cb 2 (-1) true
  rw [← hy3] at hV ⊢
  have lt_V := V.out.lt
  have lt_M := M.out.lt
  have gg_D := D.out.size
  have D := Lib.hid (below_on D.out hA)
  have V := Lib.hid (V.out.below hA V.out.lt)
  have M := Lib.hid (M.out.below hA M.out.lt)
  obtain ⟨b_E, hbf⟩ : ∃ b, b = v3.heap.size := ⟨_, rfl⟩
  rw [← hbf] at hV ⊢
  have n_V_E := Lib.hid (show b_V ≠ b_E by omega)
  clear lt_V
  have n_M_E := Lib.hid (show b_M ≠ b_E by omega)
  clear lt_M
  have g_E_D := Lib.hid (show w1.heap.size ≤ b_E by rw [hbf]; exact gg_D)
  clear gg_D
  have E := Lib.hid hV
  clear hV hA hy3 hbf
  have c_V := V.out
  have V0 := c_V.c0
  have V1 := c_V.c1
  have V2 := c_V.c2
  have V3 := c_V.c3
  have V4 := c_V.c4
  clear c_V
  have c_M := M.out
  have M0 := c_M.c0
  have M1 := c_M.c1
  have M2 := c_M.c2
  have M3 := c_M.c3
  have M4 := c_M.c4
  clear c_M
  have c_E := E.out
  have E0 := c_E.c0
  have E1 := c_E.c1
  have E2 := c_E.c2
  have E3 := c_E.c3
  have E4 := c_E.c4
  clear c_E
  go_wp2
  go_ret
  exact ⟨rfl, below_on HB1.out D.out⟩
end Go.Proofs.Ytnedljifhfkjbaa.VWin
