/-
  The law CharsColumn, walked.
-/
import Derived.Test.YtaekgempoaoioaaHw
import Derived.Test.YtaekgempoaoioaaMo
set_option linter.unusedVariables false
set_option linter.unusedSimpArgs false
set_option maxRecDepth 100000
namespace Go.Proofs.Ytaekgempoaoioaa.HCol
open Go Go.RowKit Go.Proofs.Ytaekgempoaoioaa.Vk Go.Proofs.Ytaekgempoaoioaa.Str Go.Proofs.Ytaekgempoaoioaa.Ln Go.Proofs.Ytaekgempoaoioaa.Cl Go.Proofs.Ytaekgempoaoioaa.Mv Go.Proofs.Ytaekgempoaoioaa.Ch
attribute [local go_sem] Oper.semAt_some
set_option maxHeartbeats 4000000

theorem walk (a : Option Addr) (n c' : Nat) (ls : List ByteArray) (x y q : Int) (w : World) (h : Ss w a n c' ls) (hs : ∀ s ∈ ls, s.size ≤ 140737488355328) (hx : (Lit.int .u16 x).wf = true) (hy : (Lit.int .u16 y).wf = true) (hq0 : (Lit.int .u16 q).wf = true) :
    Calls Try.prog 8 #[.slice a n c', .int .u16 x, .int .u16 y, .int .u16 q] w fun e w' => e = .returned (.bool true) ∧ Below w.heap.size w w' := by
  have hk := known_any w
  have x2 : 0 ≤ x ∧ x ≤ 65535 := by simpa [Lit.wf, IntKind.min, IntKind.max, IntKind.signed, IntKind.bits] using hx
  have y2 : 0 ≤ y ∧ y ≤ 65535 := by simpa [Lit.wf, IntKind.min, IntKind.max, IntKind.signed, IntKind.bits] using hy
  have q2 : 0 ≤ q ∧ q ≤ 65535 := by simpa [Lit.wf, IntKind.min, IntKind.max, IntKind.signed, IntKind.bits] using hq0
  go_enter Try.func8, Try.ntmps8
  go_wp2_with fail
  refine hk.mono ?_
  rintro e w1 ⟨rfl, hb1⟩
  have htx := text_any a n c' ls w1 (SrcV.below h hb1) hs
  have HS1 := Lib.hid (SrcV.below h hb1)
  have HB1 := Lib.hid hb1
  clear hk hb1 h
  go_wp2_with fail
  refine htx.mono ?_
  rintro e w' ⟨qq, rfl, rfl, hq⟩
  clear htx
  cases qq
  · clear hq
    go_wp2
    go_ret
    exact ⟨rfl, HB1.out⟩
  obtain ⟨hn0, hn40, hz, _⟩ := hq rfl
  clear hq
  have hse := seat_any a n c' ls x y w1 HS1.out hn0 hs x2 y2
  go_wp2_with fail
  refine hse.mono ?_
  rintro e w2 ⟨⟨i, m, rfl, hi, hm⟩, hb2⟩
  have D := Lib.hid hb2
  clear hse hb2
  go_upto_region 6 with fail
  obtain ⟨x2, hx2⟩ : ∃ x2, x2 = w2.alloc (.cells #[.int .i64 (i : Int), .int .i64 (m : Int)] 24) := ⟨_, rfl⟩
  have hA : Below w2.heap.size w2 x2 := by rw [hx2]; exact (Below.refl _ w2).alloc (Nat.le_refl _) _
  have hV := PosAt.new w2 (i : Int) (m : Int)
  rw [← hx2] at hV ⊢
  have gg_D := D.out.size
  have D := Lib.hid (below_on D.out hA)
  obtain ⟨b_P, hbf⟩ : ∃ b, b = w2.heap.size := ⟨_, rfl⟩
  rw [← hbf] at hV ⊢
  have g_P_D := Lib.hid (show w1.heap.size ≤ b_P by rw [hbf]; exact gg_D)
  clear gg_D
  have P := Lib.hid hV
  clear hV hA hx2 hbf
  have c_P := P.out
  have P0 := c_P.c0
  have P1 := c_P.c1
  clear c_P
  have ew : IntKind.i64.wrap q = q := by rw [IntKind.wrap_i64]; omega
  have ew2 : IntKind.i64.wrap (q + 1) = q + 1 := by rw [IntKind.wrap_i64]; omega
  have ew3 : IntKind.i64.wrap (q + 1 - 1) = q := by rw [IntKind.wrap_i64]; omega
  have hlen := Ss.length HS1.out
  have hP : Plc ls (i : Int) (m : Int) := (plc_nat (by omega)).2 hm
  have hin : lineAt ls i ∈ ls := by rw [lineAt_get (by omega)]; exact List.getElem_mem _
  have hsz : (lineAt ls i).size + 1 ≤ tz ls := tz_mem _ _ hin
  obtain ⟨bs, os, ha, hcell, hnc, _⟩ := Ss.read HS1.out i (by omega)
  rw [← lineAt_get (by omega)] at hcell
  subst ha
  have k1 := fun W (hW : Below w1.heap.size w1 W) => col_any _ n c' ls i m (q + 1) W (SrcV.below HS1.out hW) hs
  have hk1 : colR ls i m (q + 1) = ⟨i, min q ((lineAt ls i).size - 1 : Nat), 0, false, q, true⟩ := by
    unfold colR; rw [if_pos ⟨hP, by omega⟩, Int.toNat_natCast, show min (q + 1) 1073741824 - 1 = q by omega]
  rw [hk1] at k1
  have k2 := fun W (hW : Below w1.heap.size w1 W) => last_of_any _ n c' ls i m 1 W (SrcV.below HS1.out hW) hs
  have hk2 : lastR ls i m 1 = ⟨i, ((lineAt ls i).size - 1 : Nat), 1, false, 1073741824, true⟩ := by
    unfold lastR; rw [if_pos ⟨hP, by omega, by omega⟩, show (i : Int) + (min 1 1073741824 - 1) = (i : Int) by omega, Int.toNat_natCast]
  rw [hk2] at k2
  have hcl := fun W (hW : Below w1.heap.size w1 W) => cell_later hW hcell
  clear hk1 hk2 hcell hP hin hm
  generalize lineAt ls i = s at *
  obtain ⟨T, hT⟩ : ∃ T : Nat, T = s.size - 1 := ⟨_, rfl⟩
  rw [← hT] at k1 k2
  obtain ⟨E, hE⟩ : ∃ E, E = min q (T : Int) := ⟨_, rfl⟩
  rw [← hE] at k1
  have e1 : (if (T : Int) < q then (T : Int) else q) = E := by omega
  have e2 : min q (T : Int) = E := hE.symm
  have e3 : IntKind.i64.wrap ((s.size : Int) - 1) = (s.size : Int) - 1 := by rw [IntKind.wrap_i64]; omega
  have e4 : (if (s.size : Int) - 1 < 0 then 0 else (s.size : Int) - 1) = T := by omega
  have e5 : max ((s.size : Int) - 1) 0 = T := by omega
  have he1 : ∀ W, (binOp .eql 32 (.agg #[.int .i64 i, .int .i64 E, .int .i64 0, .bool false, .int .i64 q]) (.agg #[.int .i64 i, .int .i64 E, .int .i64 0, .bool false, .int .i64 q])).run Try.prog W = .ok (.bool true) W := fun W => by rw [eq_mv]; simp
  have he2 : ∀ W, (binOp .eql 32 (.agg #[.int .i64 i, .int .i64 T, .int .i64 1, .bool false, .int .i64 1073741824]) (.agg #[.int .i64 i, .int .i64 T, .int .i64 1, .bool false, .int .i64 1073741824])).run Try.prog W = .ok (.bool true) W := fun W => by rw [eq_mv]; simp
  clear hT hE
  go_wp2_with fail
  refine (k1 _ D.out).mono ?_
  rintro e w3 ⟨rfl, hb⟩
  clear P0 P1
  have D := Lib.hid (below_on D.out hb)
  have P := Lib.hid (P.out.below hb P.out.lt)
  clear hb k1
  go_upto_region 8 with fail
  obtain ⟨x3, hx3⟩ : ∃ x3, x3 = w3.alloc (.cells #[.int .i64 (i : Int), .int .i64 E, .int .i64 0, .bool false, .int .i64 q] 32) := ⟨_, rfl⟩
  have hA : Below w3.heap.size w3 x3 := by rw [hx3]; exact (Below.refl _ w3).alloc (Nat.le_refl _) _
  have hV := MvAt.new w3 (i : Int) E 0 q false
  rw [← hx3] at hV ⊢
  have lt_P := P.out.lt
  have gg_D := D.out.size
  have D := Lib.hid (below_on D.out hA)
  have P := Lib.hid (P.out.below hA P.out.lt)
  obtain ⟨b_M, hbf⟩ : ∃ b, b = w3.heap.size := ⟨_, rfl⟩
  rw [← hbf] at hV ⊢
  have n_P_M := Lib.hid (show b_P ≠ b_M by omega)
  clear lt_P
  have g_M_D := Lib.hid (show w1.heap.size ≤ b_M by rw [hbf]; exact gg_D)
  clear gg_D
  have M := Lib.hid hV
  clear hV hA hx3 hbf
  have c_P := P.out
  have P0 := c_P.c0
  have P1 := c_P.c1
  clear c_P
  have c_M := M.out
  have M0 := c_M.c0
  have M1 := c_M.c1
  have M2 := c_M.c2
  have M3 := c_M.c3
  have M4 := c_M.c4
  clear c_M
  go_wp2_with fail
  refine (k2 _ D.out).mono ?_
  rintro e w4 ⟨rfl, hb⟩
  clear P0 P1 M0 M1 M2 M3 M4
  have D := Lib.hid (below_on D.out hb)
  have P := Lib.hid (P.out.below hb P.out.lt)
  have M := Lib.hid (M.out.below hb M.out.lt)
  clear hb k2
  go_upto_region 9 with fail
  obtain ⟨x4, hx4⟩ : ∃ x4, x4 = w4.alloc (.cells #[.int .i64 (i : Int), .int .i64 (T : Int), .int .i64 1, .bool false, .int .i64 1073741824] 32) := ⟨_, rfl⟩
  have hA : Below w4.heap.size w4 x4 := by rw [hx4]; exact (Below.refl _ w4).alloc (Nat.le_refl _) _
  have hV := MvAt.new w4 (i : Int) (T : Int) 1 1073741824 false
  rw [← hx4] at hV ⊢
  have lt_P := P.out.lt
  have lt_M := M.out.lt
  have gg_D := D.out.size
  have D := Lib.hid (below_on D.out hA)
  have P := Lib.hid (P.out.below hA P.out.lt)
  have M := Lib.hid (M.out.below hA M.out.lt)
  obtain ⟨b_V, hbf⟩ : ∃ b, b = w4.heap.size := ⟨_, rfl⟩
  rw [← hbf] at hV ⊢
  have n_P_V := Lib.hid (show b_P ≠ b_V by omega)
  clear lt_P
  have n_M_V := Lib.hid (show b_M ≠ b_V by omega)
  clear lt_M
  have g_V_D := Lib.hid (show w1.heap.size ≤ b_V by rw [hbf]; exact gg_D)
  clear gg_D
  have V := Lib.hid hV
  clear hV hA hx4 hbf
  have c_P := P.out
  have P0 := c_P.c0
  have P1 := c_P.c1
  clear c_P
  have c_M := M.out
  have M0 := c_M.c0
  have M1 := c_M.c1
  have M2 := c_M.c2
  have M3 := c_M.c3
  have M4 := c_M.c4
  clear c_M
  have c_V := V.out
  have V0 := c_V.c0
  have V1 := c_V.c1
  have V2 := c_V.c2
  have V3 := c_V.c3
  have V4 := c_V.c4
  clear c_V
  have hc := hcl _ D.out
  clear hcl
  go_wp2
  go_ret
  exact ⟨rfl, below_on HB1.out D.out⟩
end Go.Proofs.Ytaekgempoaoioaa.HCol
