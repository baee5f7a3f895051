/-
  The law ParaSentence, walked.
-/
import Derived.Test.YtnngcminomooeaaXKn
set_option linter.unusedVariables false
set_option linter.unusedSimpArgs false
set_option maxRecDepth 100000
namespace Go.Proofs.Ytnngcminomooeaa.XSe
open Go Go.RowKit Go.Proofs.Ytnngcminomooeaa.Vk Go.Proofs.Ytnngcminomooeaa.Str Go.Proofs.Ytnngcminomooeaa.Ln Go.Proofs.Ytnngcminomooeaa.Cl Go.Proofs.Ytnngcminomooeaa.Mv Go.Proofs.Ytnngcminomooeaa.Wd Go.Proofs.Ytnngcminomooeaa.Pa Go.Proofs.Ytnngcminomooeaa.Po
open Go.Proofs.Ytnngcminomooeaa.Wo (On rgv RgAt putR putR_below eq_rng ne_rng)
attribute [local go_sem] Oper.semAt_some
set_option maxHeartbeats 8000000

theorem lp_asymm {a b : P2} (h : lp a b = true) : lp b a = false := by rw [lp_false]; rw [lp_iff] at h; omega
theorem wend_self {ls : List ByteArray} {a : P2} : wend ls a a = a := by
  rcases wend_is (ls := ls) (a := a) (b := a) with h | ⟨i, j, _, _, h1, h2, _⟩
  · exact h
  · rw [h1] at h2; cases h2
theorem snA_none {ls : List ByteArray} {p : P2} (h : snA ls p true = none) : snA ls p false = none := by
  unfold snA at *
  cases hk : sok (sen ls) p with
  | false => rfl
  | true =>
    rw [hk] at h
    simp only [if_true, Bool.false_eq_true, if_false] at h ⊢
    by_cases he : sfr (sen ls) p = sto ls (sen ls) p
    · rw [← he, wend_self, if_pos rfl]
    · rw [if_neg he] at h; cases h
theorem snA_some {ls : List ByteArray} {i k : Nat} {a b : P2} (hO : On ls i k) (h : snA ls (i, k) true = some (a, b)) : lp (i, k) a = false ∧ lp b (i, k) = false ∧
    (snA ls (i, k) false = none ∨ ∃ y x, snA ls (i, k) false = some (a, (y, x + 1)) ∧ lp b (y, x + 1) = false ∧ y < ls.length ∧ ∃ hx : x < (lineAt ls y).size, cls ((lineAt ls y)[x].toNat : Int) true ≠ 0) := by
  unfold snA at *
  have hok := sok_iff (S := sen ls) (p := (i, k))
  cases hk : sok (sen ls) (i, k) with
  | false => rw [hk] at h; cases h
  | true =>
    rw [hk] at h hok
    simp only [if_true, Bool.false_eq_true, if_false] at h ⊢
    have hm : 0 < sN (sen ls) (i, k) := by simpa using hok.symm
    by_cases he : sfr (sen ls) (i, k) = sto ls (sen ls) (i, k)
    · rw [if_pos he] at h; cases h
    rw [if_neg he] at h
    injection h with h
    injection h with h1 h2
    have hle := sN_le (S := sen ls) (p := (i, k))
    have hat := sN_at (p := (i, k)) (sen_sorted ls)
    refine ⟨?_, ?_, ?_⟩
    · rw [← h1, sfr_at hm, hat _ (by omega)]
      exact decide_eq_false (by omega)
    · rw [← h2]
      by_cases hN : sN (sen ls) (i, k) < (sen ls).length
      · rw [sto_at hN]
        refine lp_asymm ?_
        rw [hat _ hN]
        exact decide_eq_true (Nat.le_refl _)
      · rw [sto_end hN, lp_false]
        obtain ⟨_, g2, _, g4⟩ := hO
        rw [Int.toNat_natCast] at g4
        show ¬ (ls.length - 1 < i ∨ ls.length - 1 = i ∧ (lineAt ls (ls.length - 1)).size < k)
        rintro (g | ⟨g, g5⟩)
        · omega
        · rw [g] at g5; omega
    · rw [h1, h2]
      rcases wend_is (ls := ls) (a := a) (b := b) with hw | ⟨y, x, hw, hy, g1, g2, hx, g3⟩
      · left; rw [hw, if_pos rfl]
      · by_cases hz : a = wend ls a b
        · left; rw [if_pos hz]
        · right
          refine ⟨y, x, by rw [if_neg hz, hw], ?_, hy, hx, g3⟩
          rw [lp_iff] at g2
          rw [lp_false]
          simp only at g2 ⊢
          omega

theorem walk (a : Option Addr) (n c' : Nat) (ls : List ByteArray) (x y : Int) (w : World) (h : Ss w a n c' ls) (hs : ∀ s ∈ ls, s.size ≤ 140737488355328) (hx : (Lit.int .u16 x).wf = true) (hy : (Lit.int .u16 y).wf = true) :
    Calls Try.prog 6 #[.slice a n c', .int .u16 x, .int .u16 y] w fun e w' => e = .returned (.bool true) ∧ Below w.heap.size w w' := by
  have hk := known_any w
  have x2 : 0 ≤ x ∧ x ≤ 65535 := by simpa [Lit.wf, IntKind.min, IntKind.max, IntKind.signed, IntKind.bits] using hx
  have y2 : 0 ≤ y ∧ y ≤ 65535 := by simpa [Lit.wf, IntKind.min, IntKind.max, IntKind.signed, IntKind.bits] using hy
  go_enter Try.func6, Try.ntmps6
  go_wp2_with fail
  refine hk.mono ?_
  rintro e w1 ⟨rfl, hb1⟩
  have HB1 := Lib.hid hb1
  have hs1 : Ss w1 a n c' ls := SrcV.below h hb1
  have htx := text_any a n c' ls w1 hs1 hs
  clear hk hb1 h
  go_wp2_with fail
  refine htx.mono ?_
  rintro e w' ⟨qq, rfl, rfl, hq⟩
  clear htx
  cases qq
  · clear hq
    go_wp2
    go_ret
    exact ⟨rfl, HB1.out⟩
  obtain ⟨hn0, hn40, hz, _⟩ := hq rfl
  clear hq
  have hse := seat_eq a n c' ls x y w1 hs1 hn0 hs x2 y2
  obtain ⟨i, hi⟩ : ∃ i, i = seatL n x := ⟨_, rfl⟩
  obtain ⟨m, hm⟩ : ∃ m, m = seatC ls n x y := ⟨_, rfl⟩
  rw [← hi, ← hm] at hse
  have HS := Lib.hid hs1
  have D := Lib.hid (Below.refl w1.heap.size w1)
  have hlen := hs1.length
  clear hi hm hs1
  go_wp2_with fail
  refine (hse).mono ?_
  rintro e w2 ⟨rfl, hb⟩
  have D := Lib.hid (below_on D.out hb)
  clear hb hse
  go_upto_region 6 with fail
  obtain ⟨x2w, hx2w⟩ : ∃ x2w, x2w = w2.alloc (.cells #[.int .i64 i, .int .i64 m] 36) := ⟨_, rfl⟩
  have hA : Below w2.heap.size w2 x2w := by rw [hx2w]; exact (Below.refl _ w2).alloc (Nat.le_refl _) _
  have hV := PosAt.new w2 i m
  rw [← hx2w] at hV ⊢
  have gg_D := D.out.size
  have D := Lib.hid (below_on D.out hA)
  obtain ⟨b_P, hbf⟩ : ∃ b, b = w2.heap.size := ⟨_, rfl⟩
  rw [← hbf] at hV ⊢
  have g_P_D := Lib.hid (show w1.heap.size ≤ b_P by rw [hbf]; exact gg_D)
  clear gg_D
  have P := Lib.hid hV
  clear hV hA hx2w hbf
  have c_P := P.out
  have P0 := c_P.c0
  have P1 := c_P.c1
  clear c_P
  have c1 := fun W (hW : Below w1.heap.size w1 W) => sentence_any a n c' ls i m true W (SrcV.below HS.out hW) hs (by omega)
  have c2 := fun W (hW : Below w1.heap.size w1 W) => sentence_any a n c' ls i m false W (SrcV.below HS.out hW) hs (by omega)
  have hN : snQ ls i m true = none → snQ ls i m false = none := fun hh => by
    by_cases hO : On ls i m
    · rw [snQ_yes hO] at hh ⊢; exact snA_none hh
    · exact snQ_no hO
  have hSo : ∀ a b, snQ ls i m true = some (a, b) → lp (i, m) a = false ∧ lp b (i, m) = false ∧ (snQ ls i m false = none ∨ ∃ y x, snQ ls i m false = some (a, (y, x + 1)) ∧ lp b (y, x + 1) = false ∧ y < ls.length ∧ ∃ hx : x < (lineAt ls y).size, cls ((lineAt ls y)[x].toNat : Int) true ≠ 0) := fun a b hh => by
    by_cases hO : On ls i m
    · rw [snQ_yes hO] at hh ⊢; exact snA_some hO hh
    · rw [snQ_no hO] at hh; cases hh
  generalize snQ ls i m true = r at *
  generalize snQ ls i m false = q at *
  cases r with
  | none =>
    have hq := hN rfl
    subst hq
    simp only [snW] at c1 c2
    clear hN hSo
    go_wp2_with fail
    refine (c1 _ D.out).mono ?_
    rintro e w3 ⟨rfl, hb⟩
    clear P0 P1
    have D := Lib.hid (below_on D.out hb)
    have P := Lib.hid (P.out.below hb P.out.lt)
    clear hb c1
    go_upto_region 7 with fail
    obtain ⟨x3, hx3⟩ : ∃ x3, x3 = w3.alloc (.cells #[.int .i64 0, .int .i64 0, .int .i64 0, .int .i64 0, .int .i64 0] 42) := ⟨_, rfl⟩
    have hA : Below w3.heap.size w3 x3 := by rw [hx3]; exact (Below.refl _ w3).alloc (Nat.le_refl _) _
    have hV := RgAt.new w3 0 0 0 0 0
    rw [← hx3] at hV ⊢
    have lt_P := P.out.lt
    have gg_D := D.out.size
    have D := Lib.hid (below_on D.out hA)
    have P := Lib.hid (P.out.below hA P.out.lt)
    obtain ⟨b_V, hbf⟩ : ∃ b, b = w3.heap.size := ⟨_, rfl⟩
    rw [← hbf] at hV ⊢
    have n_P_V := Lib.hid (show b_P ≠ b_V by omega)
    clear lt_P
    have g_V_D := Lib.hid (show w1.heap.size ≤ b_V by rw [hbf]; exact gg_D)
    clear gg_D
    have V := Lib.hid hV
    clear hV hA hx3 hbf
    have c_P := P.out
    have P0 := c_P.c0
    have P1 := c_P.c1
    clear c_P
    have c_V := V.out
    have V0 := c_V.c0
    have V1 := c_V.c1
    have V2 := c_V.c2
    have V3 := c_V.c3
    have V4 := c_V.c4
    clear c_V
    go_wp2_with fail
    refine (c2 _ D.out).mono ?_
    rintro e w4 ⟨rfl, hb⟩
    clear P0 P1 V0 V1 V2 V3 V4
    have D := Lib.hid (below_on D.out hb)
    have P := Lib.hid (P.out.below hb P.out.lt)
    have V := Lib.hid (V.out.below hb V.out.lt)
    clear hb c2
    go_upto_region 8 with fail
    obtain ⟨x4, hx4⟩ : ∃ x4, x4 = w4.alloc (.cells #[.int .i64 0, .int .i64 0, .int .i64 0, .int .i64 0, .int .i64 0] 42) := ⟨_, rfl⟩
    have hA : Below w4.heap.size w4 x4 := by rw [hx4]; exact (Below.refl _ w4).alloc (Nat.le_refl _) _
    have hV := RgAt.new w4 0 0 0 0 0
    rw [← hx4] at hV ⊢
    have lt_P := P.out.lt
    have lt_V := V.out.lt
    have gg_D := D.out.size
    have D := Lib.hid (below_on D.out hA)
    have P := Lib.hid (P.out.below hA P.out.lt)
    have V := Lib.hid (V.out.below hA V.out.lt)
    obtain ⟨b_U, hbf⟩ : ∃ b, b = w4.heap.size := ⟨_, rfl⟩
    rw [← hbf] at hV ⊢
    have n_P_U := Lib.hid (show b_P ≠ b_U by omega)
    clear lt_P
    have n_V_U := Lib.hid (show b_V ≠ b_U by omega)
    clear lt_V
    have g_U_D := Lib.hid (show w1.heap.size ≤ b_U by rw [hbf]; exact gg_D)
    clear gg_D
    have U := Lib.hid hV
    clear hV hA hx4 hbf
    have c_P := P.out
    have P0 := c_P.c0
    have P1 := c_P.c1
    clear c_P
    have c_V := V.out
    have V0 := c_V.c0
    have V1 := c_V.c1
    have V2 := c_V.c2
    have V3 := c_V.c3
    have V4 := c_V.c4
    clear c_V
    have c_U := U.out
    have U0 := c_U.c0
    have U1 := c_U.c1
    have U2 := c_U.c2
    have U3 := c_U.c3
    have U4 := c_U.c4
    clear c_U
    go_wp2
    go_ret
    exact ⟨rfl, below_on HB1.out D.out⟩
  | some r =>
    obtain ⟨ra, rb⟩ := r
    obtain ⟨hpa, hbp, hor⟩ := hSo ra rb rfl
    clear hN hSo
    have l1 := fun W => So.less5_any i m ra.1 ra.2 W
    have l2 := fun W => So.less5_any rb.1 rb.2 i m W
    rw [show So.lt (i : Int) (m : Int) (ra.1 : Int) (ra.2 : Int) = false from hpa] at l1
    rw [show So.lt (rb.1 : Int) (rb.2 : Int) (i : Int) (m : Int) = false from hbp] at l2
    clear hpa hbp
    rcases hor with hq | ⟨ey, ex, hq, hbe, hey, hex, hcv⟩
    · subst hq
      simp only [snW] at c1 c2
      go_wp2_with fail
      refine (c1 _ D.out).mono ?_
      rintro e w3 ⟨rfl, hb⟩
      clear P0 P1
      have D := Lib.hid (below_on D.out hb)
      have P := Lib.hid (P.out.below hb P.out.lt)
      clear hb c1
      go_upto_region 7 with fail
      obtain ⟨x3, hx3⟩ : ∃ x3, x3 = w3.alloc (.cells #[.int .i64 0, .int .i64 ra.1, .int .i64 ra.2, .int .i64 rb.1, .int .i64 rb.2] 42) := ⟨_, rfl⟩
      have hA : Below w3.heap.size w3 x3 := by rw [hx3]; exact (Below.refl _ w3).alloc (Nat.le_refl _) _
      have hV := RgAt.new w3 0 ra.1 ra.2 rb.1 rb.2
      rw [← hx3] at hV ⊢
      have lt_P := P.out.lt
      have gg_D := D.out.size
      have D := Lib.hid (below_on D.out hA)
      have P := Lib.hid (P.out.below hA P.out.lt)
      obtain ⟨b_V, hbf⟩ : ∃ b, b = w3.heap.size := ⟨_, rfl⟩
      rw [← hbf] at hV ⊢
      have n_P_V := Lib.hid (show b_P ≠ b_V by omega)
      clear lt_P
      have g_V_D := Lib.hid (show w1.heap.size ≤ b_V by rw [hbf]; exact gg_D)
      clear gg_D
      have V := Lib.hid hV
      clear hV hA hx3 hbf
      have c_P := P.out
      have P0 := c_P.c0
      have P1 := c_P.c1
      clear c_P
      have c_V := V.out
      have V0 := c_V.c0
      have V1 := c_V.c1
      have V2 := c_V.c2
      have V3 := c_V.c3
      have V4 := c_V.c4
      clear c_V
      go_wp2_with fail
      refine (c2 _ D.out).mono ?_
      rintro e w4 ⟨rfl, hb⟩
      clear P0 P1 V0 V1 V2 V3 V4
      have D := Lib.hid (below_on D.out hb)
      have P := Lib.hid (P.out.below hb P.out.lt)
      have V := Lib.hid (V.out.below hb V.out.lt)
      clear hb c2
      go_upto_region 8 with fail
      obtain ⟨x4, hx4⟩ : ∃ x4, x4 = w4.alloc (.cells #[.int .i64 0, .int .i64 0, .int .i64 0, .int .i64 0, .int .i64 0] 42) := ⟨_, rfl⟩
      have hA : Below w4.heap.size w4 x4 := by rw [hx4]; exact (Below.refl _ w4).alloc (Nat.le_refl _) _
      have hV := RgAt.new w4 0 0 0 0 0
      rw [← hx4] at hV ⊢
      have lt_P := P.out.lt
      have lt_V := V.out.lt
      have gg_D := D.out.size
      have D := Lib.hid (below_on D.out hA)
      have P := Lib.hid (P.out.below hA P.out.lt)
      have V := Lib.hid (V.out.below hA V.out.lt)
      obtain ⟨b_U, hbf⟩ : ∃ b, b = w4.heap.size := ⟨_, rfl⟩
      rw [← hbf] at hV ⊢
      have n_P_U := Lib.hid (show b_P ≠ b_U by omega)
      clear lt_P
      have n_V_U := Lib.hid (show b_V ≠ b_U by omega)
      clear lt_V
      have g_U_D := Lib.hid (show w1.heap.size ≤ b_U by rw [hbf]; exact gg_D)
      clear gg_D
      have U := Lib.hid hV
      clear hV hA hx4 hbf
      have c_P := P.out
      have P0 := c_P.c0
      have P1 := c_P.c1
      clear c_P
      have c_V := V.out
      have V0 := c_V.c0
      have V1 := c_V.c1
      have V2 := c_V.c2
      have V3 := c_V.c3
      have V4 := c_V.c4
      clear c_V
      have c_U := U.out
      have U0 := c_U.c0
      have U1 := c_U.c1
      have U2 := c_U.c2
      have U3 := c_U.c3
      have U4 := c_U.c4
      clear c_U
      go_wp2_with fail
      refine (l1 _).mono ?_
      rintro e w5 ⟨rfl, hb⟩
      clear P0 P1 V0 V1 V2 V3 V4 U0 U1 U2 U3 U4
      have D := Lib.hid (below_on D.out hb)
      have P := Lib.hid (P.out.below hb P.out.lt)
      have V := Lib.hid (V.out.below hb V.out.lt)
      have U := Lib.hid (U.out.below hb U.out.lt)
      clear hb l1
      have c_P := P.out
      have P0 := c_P.c0
      have P1 := c_P.c1
      clear c_P
      have c_V := V.out
      have V0 := c_V.c0
      have V1 := c_V.c1
      have V2 := c_V.c2
      have V3 := c_V.c3
      have V4 := c_V.c4
      clear c_V
      have c_U := U.out
      have U0 := c_U.c0
      have U1 := c_U.c1
      have U2 := c_U.c2
      have U3 := c_U.c3
      have U4 := c_U.c4
      clear c_U
      go_wp2_with fail
      refine (l2 _).mono ?_
      rintro e w6 ⟨rfl, hb⟩
      clear P0 P1 V0 V1 V2 V3 V4 U0 U1 U2 U3 U4
      have D := Lib.hid (below_on D.out hb)
      have P := Lib.hid (P.out.below hb P.out.lt)
      have V := Lib.hid (V.out.below hb V.out.lt)
      have U := Lib.hid (U.out.below hb U.out.lt)
      clear hb l2
      have c_P := P.out
      have P0 := c_P.c0
      have P1 := c_P.c1
      clear c_P
      have c_V := V.out
      have V0 := c_V.c0
      have V1 := c_V.c1
      have V2 := c_V.c2
      have V3 := c_V.c3
      have V4 := c_V.c4
      clear c_V
      have c_U := U.out
      have U0 := c_U.c0
      have U1 := c_U.c1
      have U2 := c_U.c2
      have U3 := c_U.c3
      have U4 := c_U.c4
      clear c_U
      go_wp2
      go_ret
      exact ⟨rfl, below_on HB1.out D.out⟩
    · obtain ⟨ex1, hex1⟩ : ∃ z, z = ex + 1 := ⟨_, rfl⟩
      rw [← hex1] at hq hbe
      have HX1 := Lib.hid hex1
      have hwx : IntKind.i64.wrap ((ex1 : Int) - 1) = (ex : Int) := by
        have h1 := tz_mem ls (lineAt ls ey) (by rw [lineAt_get hey]; exact List.getElem_mem _)
        rw [IntKind.wrap_i64]; omega
      have d0 : decide (0 < ex1) = true := decide_eq_true (by omega)
      have d1 : decide ((0 : Int) < (ex1 : Int)) = true := decide_eq_true (by omega)
      obtain ⟨g0, o0, rfl, hcy, hncy, _⟩ := HS.out.read ey (by omega)
      rw [← lineAt_get (ls := ls) (k := ey) (by omega)] at hcy
      have HCY := Lib.hid hcy
      have bY : (ey : Int) < (n : Int) := by omega
      have bY2 : ey < n := by omega
      clear hex1 hcy hncy
      subst hq
      simp only [snW] at c1 c2
      go_wp2_with fail
      refine (c1 _ D.out).mono ?_
      rintro e w3 ⟨rfl, hb⟩
      clear P0 P1
      have D := Lib.hid (below_on D.out hb)
      have P := Lib.hid (P.out.below hb P.out.lt)
      clear hb c1
      go_upto_region 7 with fail
      obtain ⟨x3, hx3⟩ : ∃ x3, x3 = w3.alloc (.cells #[.int .i64 0, .int .i64 ra.1, .int .i64 ra.2, .int .i64 rb.1, .int .i64 rb.2] 42) := ⟨_, rfl⟩
      have hA : Below w3.heap.size w3 x3 := by rw [hx3]; exact (Below.refl _ w3).alloc (Nat.le_refl _) _
      have hV := RgAt.new w3 0 ra.1 ra.2 rb.1 rb.2
      rw [← hx3] at hV ⊢
      have lt_P := P.out.lt
      have gg_D := D.out.size
      have D := Lib.hid (below_on D.out hA)
      have P := Lib.hid (P.out.below hA P.out.lt)
      obtain ⟨b_V, hbf⟩ : ∃ b, b = w3.heap.size := ⟨_, rfl⟩
      rw [← hbf] at hV ⊢
      have n_P_V := Lib.hid (show b_P ≠ b_V by omega)
      clear lt_P
      have g_V_D := Lib.hid (show w1.heap.size ≤ b_V by rw [hbf]; exact gg_D)
      clear gg_D
      have V := Lib.hid hV
      clear hV hA hx3 hbf
      have c_P := P.out
      have P0 := c_P.c0
      have P1 := c_P.c1
      clear c_P
      have c_V := V.out
      have V0 := c_V.c0
      have V1 := c_V.c1
      have V2 := c_V.c2
      have V3 := c_V.c3
      have V4 := c_V.c4
      clear c_V
      go_wp2_with fail
      refine (c2 _ D.out).mono ?_
      rintro e w4 ⟨rfl, hb⟩
      clear P0 P1 V0 V1 V2 V3 V4
      have D := Lib.hid (below_on D.out hb)
      have P := Lib.hid (P.out.below hb P.out.lt)
      have V := Lib.hid (V.out.below hb V.out.lt)
      clear hb c2
      go_upto_region 8 with fail
      obtain ⟨x4, hx4⟩ : ∃ x4, x4 = w4.alloc (.cells #[.int .i64 0, .int .i64 ra.1, .int .i64 ra.2, .int .i64 ey, .int .i64 ex1] 42) := ⟨_, rfl⟩
      have hA : Below w4.heap.size w4 x4 := by rw [hx4]; exact (Below.refl _ w4).alloc (Nat.le_refl _) _
      have hV := RgAt.new w4 0 ra.1 ra.2 ey ex1
      rw [← hx4] at hV ⊢
      have lt_P := P.out.lt
      have lt_V := V.out.lt
      have gg_D := D.out.size
      have D := Lib.hid (below_on D.out hA)
      have P := Lib.hid (P.out.below hA P.out.lt)
      have V := Lib.hid (V.out.below hA V.out.lt)
      obtain ⟨b_U, hbf⟩ : ∃ b, b = w4.heap.size := ⟨_, rfl⟩
      rw [← hbf] at hV ⊢
      have n_P_U := Lib.hid (show b_P ≠ b_U by omega)
      clear lt_P
      have n_V_U := Lib.hid (show b_V ≠ b_U by omega)
      clear lt_V
      have g_U_D := Lib.hid (show w1.heap.size ≤ b_U by rw [hbf]; exact gg_D)
      clear gg_D
      have U := Lib.hid hV
      clear hV hA hx4 hbf
      have c_P := P.out
      have P0 := c_P.c0
      have P1 := c_P.c1
      clear c_P
      have c_V := V.out
      have V0 := c_V.c0
      have V1 := c_V.c1
      have V2 := c_V.c2
      have V3 := c_V.c3
      have V4 := c_V.c4
      clear c_V
      have c_U := U.out
      have U0 := c_U.c0
      have U1 := c_U.c1
      have U2 := c_U.c2
      have U3 := c_U.c3
      have U4 := c_U.c4
      clear c_U
      go_wp2_with fail
      refine (l1 _).mono ?_
      rintro e w5 ⟨rfl, hb⟩
      clear P0 P1 V0 V1 V2 V3 V4 U0 U1 U2 U3 U4
      have D := Lib.hid (below_on D.out hb)
      have P := Lib.hid (P.out.below hb P.out.lt)
      have V := Lib.hid (V.out.below hb V.out.lt)
      have U := Lib.hid (U.out.below hb U.out.lt)
      clear hb l1
      have c_P := P.out
      have P0 := c_P.c0
      have P1 := c_P.c1
      clear c_P
      have c_V := V.out
      have V0 := c_V.c0
      have V1 := c_V.c1
      have V2 := c_V.c2
      have V3 := c_V.c3
      have V4 := c_V.c4
      clear c_V
      have c_U := U.out
      have U0 := c_U.c0
      have U1 := c_U.c1
      have U2 := c_U.c2
      have U3 := c_U.c3
      have U4 := c_U.c4
      clear c_U
      go_wp2_with fail
      refine (l2 _).mono ?_
      rintro e w6 ⟨rfl, hb⟩
      clear P0 P1 V0 V1 V2 V3 V4 U0 U1 U2 U3 U4
      have D := Lib.hid (below_on D.out hb)
      have P := Lib.hid (P.out.below hb P.out.lt)
      have V := Lib.hid (V.out.below hb V.out.lt)
      have U := Lib.hid (U.out.below hb U.out.lt)
      clear hb l2
      have c_P := P.out
      have P0 := c_P.c0
      have P1 := c_P.c1
      clear c_P
      have c_V := V.out
      have V0 := c_V.c0
      have V1 := c_V.c1
      have V2 := c_V.c2
      have V3 := c_V.c3
      have V4 := c_V.c4
      clear c_V
      have c_U := U.out
      have U0 := c_U.c0
      have U1 := c_U.c1
      have U2 := c_U.c2
      have U3 := c_U.c3
      have U4 := c_U.c4
      clear c_U
      clear P0 P1 V0 V1 V2 V3 V4 U0 U1 U2 U3 U4
      obtain ⟨st, hst⟩ : ∃ st, st = lineAt ls ey := ⟨_, rfl⟩
      have hcy := cell_later D.out HCY.out
      have l3 := fun z : Gr w6 => So.less5_any rb.1 rb.2 ey ex1 z.W
      simp only [show So.lt (rb.1 : Int) (rb.2 : Int) (ey : Int) (ex1 : Int) = false from hbe] at l3
      have hof := fun W => of5_any ((lineAt ls ey)[ex]'hex).toNat true W
      obtain ⟨CV, hCV⟩ : ∃ CV : Int, CV = cls ((lineAt ls ey)[ex].toNat : Int) true := ⟨_, rfl⟩
      rw [← hCV] at hof hcv
      have a0 : (CV == 0) = false := by rw [beq_eq_false_iff_ne]; exact hcv
      have a1 : (CV != 0) = true := by rw [bne_iff_ne]; exact hcv
      have bX : (ex : Int) < ((lineAt ls ey).size : Int) := by omega
      have bX2 := hex
      have he := fun W => Mv.eq_pos ra.1 ra.2 ra.1 ra.2 W
      simp only [decide_true, Bool.and_self] at he
      have f0 := fun z : Gr w6 => z.cell hcy
      have f1 := fun z : Gr w6 => z.cell V.out.c1
      have f2 := fun z : Gr w6 => z.cell V.out.c2
      have f3 := fun z : Gr w6 => z.cell V.out.c3
      have f4 := fun z : Gr w6 => z.cell V.out.c4
      have f5 := fun z : Gr w6 => z.cell U.out.c1
      have f6 := fun z : Gr w6 => z.cell U.out.c2
      have f7 := fun z : Gr w6 => z.cell U.out.c3
      have f8 := fun z : Gr w6 => z.cell U.out.c4
      clear hcy hbe hcv hst hCV
      go_upto_region 14 with fail
      refine wp_region_grow (by kernel_rfl) (by kernel_rfl) ?_
      repeat (go_big_quiet_step (first | (go_at_call 20; exact Calls.grow_of (l3 _)) | (go_at_call 21; exact Calls.grow_of_same (hof _))))
      refine wpQuiet_nil ?_
      rintro X9 ⟨⟨_, hX9⟩, rfl⟩
      clear f0 f1 f2 f3 f4 f5 f6 f7 f8 l3 hof he
      go_wp2
      go_ret
      exact ⟨rfl, below_on HB1.out (below_on D.out hX9)⟩
end Go.Proofs.Ytnngcminomooeaa.XSe
