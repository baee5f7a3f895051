/-
  The law PairBack, walked.
-/
import Derived.Test.YtjlchnlebiangaaJn
import Derived.Test.YtjlchnlebiangaaJBl
set_option linter.unusedVariables false
set_option linter.unusedSimpArgs false
set_option maxRecDepth 100000
namespace Go.Proofs.Ytjlchnlebiangaa.JBac
open Go Go.RowKit Go.Proofs.Ytjlchnlebiangaa.Vk Go.Proofs.Ytjlchnlebiangaa.Str Go.Proofs.Ytjlchnlebiangaa.Ln Go.Proofs.Ytjlchnlebiangaa.Cl Go.Proofs.Ytjlchnlebiangaa.Mv Go.Proofs.Ytjlchnlebiangaa.Wd Go.Proofs.Ytjlchnlebiangaa.Pr
attribute [local go_sem] Oper.semAt_some
set_option maxHeartbeats 4000000

theorem neq_p2 (p q : P2) (h : p ≠ q) (W : World) : (binOp .neq 24 (.agg #[.int .i64 p.1, .int .i64 p.2]) (.agg #[.int .i64 q.1, .int .i64 q.2])).run Try.prog W = .ok (.bool true) W := by
  have hS : Try.prog.underlying 24 = some (.struct (Try.prog.fieldsOf 24)) := by kernel_rfl
  have hp : Try.prog.stoodInHeld 24 = false := by kernel_rfl
  rw [run_neq_struct, show (10000 : Nat) = 9999 + 1 from rfl, run_equalIn_agg W 9999 24 _ _ hS hp]
  simp only [Program.fieldsOf, Try.underlying24]
  have hh : ¬ (((p.1 : Int) = q.1) ∧ ((p.2 : Int) = q.2)) := fun ⟨a, b⟩ => h (Prod.ext (by omega) (by omega))
  generalize (p.1 : Int) = a at *
  generalize (p.2 : Int) = b at *
  generalize (q.1 : Int) = c at *
  generalize (q.2 : Int) = d at *
  go_simp
  by_cases h1 : a = c <;> by_cases h2 : b = d <;> simp [h1, h2] <;> exact hh ⟨h1, h2⟩

theorem walk (a : Option Addr) (n c' : Nat) (ls : List ByteArray) (x y : Int) (w : World) (h : Ss w a n c' ls) (hs : ∀ s ∈ ls, s.size ≤ 140737488355328) (hx : (Lit.int .u16 x).wf = true) (hy : (Lit.int .u16 y).wf = true) :
    Calls Try.prog 4 #[.slice a n c', .int .u16 x, .int .u16 y] w fun e w' => e = .returned (.bool true) ∧ Below w.heap.size w w' := by
  have hk := known_any w
  have x2 : 0 ≤ x ∧ x ≤ 65535 := by simpa [Lit.wf, IntKind.min, IntKind.max, IntKind.signed, IntKind.bits] using hx
  have y2 : 0 ≤ y ∧ y ≤ 65535 := by simpa [Lit.wf, IntKind.min, IntKind.max, IntKind.signed, IntKind.bits] using hy
  go_enter Try.func4, Try.ntmps4
  go_wp2_with fail
  refine hk.mono ?_
  rintro e w1 ⟨rfl, hb1⟩
  have hs1 := SrcV.below h hb1
  have htx := text_any a n c' ls w1 hs1 hs
  have HS1 := Lib.hid hs1
  have HB1 := Lib.hid hb1
  clear hk hb1 h hs1
  go_wp2_with fail
  refine htx.mono ?_
  rintro e w' ⟨qq, rfl, rfl, hq⟩
  clear htx
  cases qq
  · clear hq
    go_wp2
    go_ret
    exact ⟨rfl, HB1.out⟩
  obtain ⟨hn0, hn40, hz, _⟩ := hq rfl
  clear hq
  have hlen := Ss.length HS1.out
  have hse := seat_any a n c' ls x y w1 HS1.out hn0 hs x2 y2
  have D := Lib.hid (Below.refl w1.heap.size w1)
  go_wp2_with fail
  refine hse.mono ?_
  rintro e w2 ⟨⟨i, k, rfl, hi, hkk⟩, hb⟩
  have D := Lib.hid (below_on D.out hb)
  clear hse hb
  have hM := fun W (hW : Below w1.heap.size w1 W) (l c : Int) => match_any a n c' ls l c W (SrcV.below HS1.out hW) hs (by omega) (by omega)
  have HM := Lib.hid hM
  have hP : Plc ls (i : Int) (k : Int) := ⟨by omega, by omega, by omega, by rw [Int.toNat_natCast]; omega⟩
  have hmr := mtR_yes hP
  have hr1 := HM.out w2 D.out i k
  clear hM hP
  cases hm : mtc ls i k with
  | none =>
    rw [hm] at hmr
    rw [hmr] at hr1
    dsimp only [R.no, R.v] at hr1
    clear hmr hm hi hkk
    go_wp2_with fail
    refine (hr1).mono ?_
    rintro e w3 ⟨rfl, hb⟩
    have D := Lib.hid (below_on D.out hb)
    clear hb hr1
    go_upto_region 6 with fail
    obtain ⟨x3, hx3⟩ : ∃ x3, x3 = w3.alloc (.cells #[.int .i64 0, .int .i64 0, .int .i64 0, .bool false, .int .i64 0] 31) := ⟨_, rfl⟩
    have hA : Below w3.heap.size w3 x3 := by rw [hx3]; exact (Below.refl _ w3).alloc (Nat.le_refl _) _
    have hV := MvAt.new w3 0 0 0 0 false
    rw [← hx3] at hV ⊢
    have gg_D := D.out.size
    have D := Lib.hid (below_on D.out hA)
    obtain ⟨b_V, hbf⟩ : ∃ b, b = w3.heap.size := ⟨_, rfl⟩
    rw [← hbf] at hV ⊢
    have g_V_D := Lib.hid (show w1.heap.size ≤ b_V by rw [hbf]; exact gg_D)
    clear gg_D
    have V := Lib.hid hV
    clear hV hA hx3 hbf
    have c_V := V.out
    have V0 := c_V.c0
    have V1 := c_V.c1
    have V2 := c_V.c2
    have V3 := c_V.c3
    have V4 := c_V.c4
    clear c_V
    go_wp2
    go_ret
    exact ⟨rfl, below_on HB1.out D.out⟩
  | some q =>
    obtain ⟨j, e1, e2, hne, P1, P2⟩ := mtc_back (by omega) hm
    rw [hm] at hmr
    rw [hmr] at hr1
    have hr2 := fun W (hW : Below w1.heap.size w1 W) => HM.out W hW q.1 q.2
    have hr3 := fun W (hW : Below w1.heap.size w1 W) => HM.out W hW i j
    rw [show mtR ls q.1 q.2 = ⟨i, j, 1, true, -1, true⟩ by rw [mtR_yes P1, e1]] at hr2
    rw [show mtR ls i j = ⟨q.1, q.2, 1, true, -1, true⟩ by rw [mtR_yes P2, e2]] at hr3
    have he1 := fun W => eq_p2 q q true (decide_eq_true rfl) W
    have he2 := fun W => neq_p2 (i, j) q hne W
    clear hmr hm e1 e2 hne P1 P2 hi hkk
    go_wp2_with fail
    refine (hr1).mono ?_
    rintro e w3 ⟨rfl, hb⟩
    have D := Lib.hid (below_on D.out hb)
    clear hb hr1
    go_upto_region 6 with fail
    obtain ⟨x3, hx3⟩ : ∃ x3, x3 = w3.alloc (.cells #[.int .i64 q.1, .int .i64 q.2, .int .i64 1, .bool true, .int .i64 (-1)] 31) := ⟨_, rfl⟩
    have hA : Below w3.heap.size w3 x3 := by rw [hx3]; exact (Below.refl _ w3).alloc (Nat.le_refl _) _
    have hV := MvAt.new w3 q.1 q.2 1 (-1) true
    rw [← hx3] at hV ⊢
    have gg_D := D.out.size
    have D := Lib.hid (below_on D.out hA)
    obtain ⟨b_V, hbf⟩ : ∃ b, b = w3.heap.size := ⟨_, rfl⟩
    rw [← hbf] at hV ⊢
    have g_V_D := Lib.hid (show w1.heap.size ≤ b_V by rw [hbf]; exact gg_D)
    clear gg_D
    have V := Lib.hid hV
    clear hV hA hx3 hbf
    have c_V := V.out
    have V0 := c_V.c0
    have V1 := c_V.c1
    have V2 := c_V.c2
    have V3 := c_V.c3
    have V4 := c_V.c4
    clear c_V
    go_wp2_with fail
    refine (hr2 _ D.out).mono ?_
    rintro e w4 ⟨rfl, hb⟩
    clear V0 V1 V2 V3 V4
    have D := Lib.hid (below_on D.out hb)
    have V := Lib.hid (V.out.below hb V.out.lt)
    clear hb hr2
    go_upto_region 9 with fail
    obtain ⟨x4, hx4⟩ : ∃ x4, x4 = w4.alloc (.cells #[.int .i64 i, .int .i64 j, .int .i64 1, .bool true, .int .i64 (-1)] 31) := ⟨_, rfl⟩
    have hA : Below w4.heap.size w4 x4 := by rw [hx4]; exact (Below.refl _ w4).alloc (Nat.le_refl _) _
    have hV := MvAt.new w4 i j 1 (-1) true
    rw [← hx4] at hV ⊢
    have lt_V := V.out.lt
    have gg_D := D.out.size
    have D := Lib.hid (below_on D.out hA)
    have V := Lib.hid (V.out.below hA V.out.lt)
    obtain ⟨b_U, hbf⟩ : ∃ b, b = w4.heap.size := ⟨_, rfl⟩
    rw [← hbf] at hV ⊢
    have n_V_U := Lib.hid (show b_V ≠ b_U by omega)
    clear lt_V
    have g_U_D := Lib.hid (show w1.heap.size ≤ b_U by rw [hbf]; exact gg_D)
    clear gg_D
    have U := Lib.hid hV
    clear hV hA hx4 hbf
    have c_V := V.out
    have V0 := c_V.c0
    have V1 := c_V.c1
    have V2 := c_V.c2
    have V3 := c_V.c3
    have V4 := c_V.c4
    clear c_V
    have c_U := U.out
    have U0 := c_U.c0
    have U1 := c_U.c1
    have U2 := c_U.c2
    have U3 := c_U.c3
    have U4 := c_U.c4
    clear c_U
    go_wp2_with fail
    refine (hr3 _ D.out).mono ?_
    rintro e w5 ⟨rfl, hb⟩
    clear V0 V1 V2 V3 V4 U0 U1 U2 U3 U4
    have D := Lib.hid (below_on D.out hb)
    have V := Lib.hid (V.out.below hb V.out.lt)
    have U := Lib.hid (U.out.below hb U.out.lt)
    clear hb hr3
    go_upto_region 10 with fail
    obtain ⟨x5, hx5⟩ : ∃ x5, x5 = w5.alloc (.cells #[.int .i64 q.1, .int .i64 q.2, .int .i64 1, .bool true, .int .i64 (-1)] 31) := ⟨_, rfl⟩
    have hA : Below w5.heap.size w5 x5 := by rw [hx5]; exact (Below.refl _ w5).alloc (Nat.le_refl _) _
    have hV := MvAt.new w5 q.1 q.2 1 (-1) true
    rw [← hx5] at hV ⊢
    have lt_V := V.out.lt
    have lt_U := U.out.lt
    have gg_D := D.out.size
    have D := Lib.hid (below_on D.out hA)
    have V := Lib.hid (V.out.below hA V.out.lt)
    have U := Lib.hid (U.out.below hA U.out.lt)
    obtain ⟨b_T, hbf⟩ : ∃ b, b = w5.heap.size := ⟨_, rfl⟩
    rw [← hbf] at hV ⊢
    have n_V_T := Lib.hid (show b_V ≠ b_T by omega)
    clear lt_V
    have n_U_T := Lib.hid (show b_U ≠ b_T by omega)
    clear lt_U
    have g_T_D := Lib.hid (show w1.heap.size ≤ b_T by rw [hbf]; exact gg_D)
    clear gg_D
    have T := Lib.hid hV
    clear hV hA hx5 hbf
    have c_V := V.out
    have V0 := c_V.c0
    have V1 := c_V.c1
    have V2 := c_V.c2
    have V3 := c_V.c3
    have V4 := c_V.c4
    clear c_V
    have c_U := U.out
    have U0 := c_U.c0
    have U1 := c_U.c1
    have U2 := c_U.c2
    have U3 := c_U.c3
    have U4 := c_U.c4
    clear c_U
    have c_T := T.out
    have T0 := c_T.c0
    have T1 := c_T.c1
    have T2 := c_T.c2
    have T3 := c_T.c3
    have T4 := c_T.c4
    clear c_T
    go_wp2
    go_ret
    exact ⟨rfl, below_on HB1.out D.out⟩
end Go.Proofs.Ytjlchnlebiangaa.JBac
