/-
  Package words: where an operator goes (operated).
-/
import Derived.Test.YtdgckgfbdplnpaaZq
set_option linter.unusedVariables false
set_option linter.unusedSimpArgs false
set_option maxRecDepth 100000
namespace Go.Proofs.Ytdgckgfbdplnpaa.Wd
open Go Go.RowKit Go.Proofs.Ytdgckgfbdplnpaa.Vk Go.Proofs.Ytdgckgfbdplnpaa.Str Go.Proofs.Ytdgckgfbdplnpaa.Ln Go.Proofs.Ytdgckgfbdplnpaa.Cl Go.Proofs.Ytdgckgfbdplnpaa.Mv Go.Shelf
attribute [local go_sem] Oper.semAt_some

theorem opG_end {ls : List ByteArray} {p : P2} {l : List P2} {k : Nat} (h : l.length < k) : opG ls p l k = endP ls (ls.length - 1) := if_neg (by omega)
theorem opG_cut {ls : List ByteArray} {p : P2} {l : List P2} {k : Nat} {x f : P2} (h : k ≤ l.length) (hx : l.getD (k - 1) (0, 0) = x) (hf : (if 1 < k then l.getD (k - 2) (0, 0) else p) = f) (hl : f.1 < x.1) : opG ls p l k = endP ls f.1 := by
  unfold opG; rw [if_pos h]; simp only [hx, hf]; rw [if_pos hl]
theorem opG_at {ls : List ByteArray} {p : P2} {l : List P2} {k : Nat} {x f : P2} (h : k ≤ l.length) (hx : l.getD (k - 1) (0, 0) = x) (hf : (if 1 < k then l.getD (k - 2) (0, 0) else p) = f) (hl : ¬ f.1 < x.1) : opG ls p l k = x := by
  unfold opG; rw [if_pos h]; simp only [hx, hf]; rw [if_neg hl]
theorem nth_yes {m : Nat} {xs : List P2} (v : Value) (K : Nat) (w : World) (h : Tells w v m xs) (hK : 1 ≤ K) (hK2 : K ≤ 1073741824) (hl : K ≤ xs.length) {x : P2} (hx : xs.getD (K - 1) (0, 0) = x) :
    Calls Try.prog 37 #[v, .int .i64 K] w fun e w' => e = .returned (.tuple #[.agg #[.int .i64 x.1, .int .i64 x.2], .bool true]) ∧ Below w.heap.size w w' := by
  have := nth_any v K w h hK hK2
  unfold nthV at this
  rw [if_neg (by omega), hx] at this
  exact this
theorem nth_no {m : Nat} {xs : List P2} (v : Value) (K : Nat) (w : World) (h : Tells w v m xs) (hK : 1 ≤ K) (hK2 : K ≤ 1073741824) (hl : xs.length < K) :
    Calls Try.prog 37 #[v, .int .i64 K] w fun e w' => e = .returned (.tuple #[.agg #[.int .i64 0, .int .i64 0], .bool false]) ∧ Below w.heap.size w w' := by
  have := nth_any v K w h hK hK2
  unfold nthV at this
  rw [if_pos hl] at this
  exact this

set_option maxHeartbeats 8000000 in
theorem operated_any {m : Nat} {xs : List P2} (a : Option Addr) (n c' : Nat) (ls : List ByteArray) (v : Value) (p : P2) (K : Nat) (w : World) (hs0 : Ss w a n c' ls) (h0n : 0 < n) (ht : Tells w v m xs) (hxs : ∀ x ∈ xs, x.1 < n) (hK : 1 ≤ K) (hK2 : K ≤ 1073741824) :
    Calls Try.prog 34 #[.slice a n c', .agg #[.int .i64 p.1, .int .i64 p.2], v, .int .i64 K] w fun e w' => e = .returned (nthU (opV ls p xs K)) ∧ Below w.heap.size w w' := by
  obtain ⟨X, hX⟩ : ∃ X, X = ((w.alloc (.cells #[.int .i64 p.1, .int .i64 p.2] 35)).alloc (.cells #[.int .i64 0, .int .i64 0] 35)).alloc (.cells #[.int .i64 p.1, .int .i64 p.2] 35) := ⟨_, rfl⟩
  obtain ⟨hsi, e0, e1, e2, bi⟩ := three_rows w (.cells #[.int .i64 p.1, .int .i64 p.2] 35) (.cells #[.int .i64 0, .int .i64 0] 35) (.cells #[.int .i64 p.1, .int .i64 p.2] 35)
  rw [← hX] at hsi e0 e1 e2 bi
  obtain ⟨b_P, hbP⟩ : ∃ b, b = w.heap.size := ⟨_, rfl⟩
  obtain ⟨b_R, hbR⟩ : ∃ b, b = w.heap.size + 1 := ⟨_, rfl⟩
  obtain ⟨b_L, hbL⟩ : ∃ b, b = w.heap.size + 1 + 1 := ⟨_, rfl⟩
  rw [← hbP] at e0
  rw [← hbR] at e1
  rw [show w.heap.size + 2 = b_L by omega] at e2
  have P := Lib.hid (show PosAt X b_P p.1 p.2 from e0)
  have R := Lib.hid (show PosAt X b_R 0 0 from e1)
  have L := Lib.hid (show PosAt X b_L p.1 p.2 from e2)
  have n_P_R := Lib.hid (show b_P ≠ b_R by omega)
  have n_P_L := Lib.hid (show b_P ≠ b_L by omega)
  have n_R_L := Lib.hid (show b_R ≠ b_L by omega)
  have g_P_D := Lib.hid (show w.heap.size ≤ b_P by omega)
  have g_R_D := Lib.hid (show w.heap.size ≤ b_R by omega)
  have g_L_D := Lib.hid (show w.heap.size ≤ b_L by omega)
  have D := Lib.hid bi
  have hlen := hs0.length
  have hn63 := hs0.le63
  have HS := Lib.hid hs0
  have HT := Lib.hid ht
  have HXX := Lib.hid (And.intro hX (And.intro hbP (And.intro hbR hbL)))
  clear hX hbP hbR hbL e0 e1 e2 bi hsi hs0 ht
  by_cases hK1 : 1 < K
  · have dk : decide ((1 : Int) < (K : Int)) = true := decide_eq_true (by omega)
    have dk2 : decide (1 < K) = true := decide_eq_true (by omega)
    obtain ⟨J, hJ1, hJ2⟩ : ∃ J, J + 1 ≤ K ∧ K ≤ J + 1 := ⟨K - 1, by omega, by omega⟩
    have hwj : IntKind.i64.wrap ((K : Int) - 1) = (J : Int) := by rw [wrap_id (by omega) (by omega)]; omega
    go_enter Try.func34, Try.ntmps34
    go_upto_region 2 with fail
    rw [← HXX.out.1, ← HXX.out.2.2.2, ← HXX.out.2.2.1, ← HXX.out.2.1]
    clear HXX
    have c_P := P.out
    have P0 := c_P.c0
    have P1 := c_P.c1
    clear c_P
    have c_R := R.out
    have R0 := c_R.c0
    have R1 := c_R.c1
    have Rz := fun k => frozen_of_row _ b_R k _ _ c_R
    clear c_R
    have c_L := L.out
    have L0 := c_L.c0
    have L1 := c_L.c1
    have Lz := fun k => frozen_of_row _ b_L k _ _ c_L
    clear c_L
    by_cases hJl : xs.length < J
    · have hk1 := nth_no v J X (HT.out.later D.out) (by omega) (by omega) (by omega)
      go_wp2_with fail
      refine (hk1).mono ?_
      rintro e v12 ⟨rfl, hb⟩
      clear P0 P1 R0 R1 Rz L0 L1 Lz
      have D := Lib.hid (below_on D.out hb)
      have P := Lib.hid (P.out.below hb P.out.lt)
      have R := Lib.hid (R.out.below hb R.out.lt)
      have L := Lib.hid (L.out.below hb L.out.lt)
      clear hb hk1
      go_upto_region 4 with fail
      obtain ⟨x13, hx13⟩ : ∃ x13, x13 = v12.alloc (.cells #[.int .i64 0, .int .i64 0] 35) := ⟨_, rfl⟩
      have hA : Below v12.heap.size v12 x13 := by rw [hx13]; exact (Below.refl _ v12).alloc (Nat.le_refl _) _
      have hV := PosAt.new v12 0 0
      rw [← hx13] at hV ⊢
      have lt_P := P.out.lt
      have lt_R := R.out.lt
      have lt_L := L.out.lt
      have gg_D := D.out.size
      have D := Lib.hid (below_on D.out hA)
      have P := Lib.hid (P.out.below hA P.out.lt)
      have R := Lib.hid (R.out.below hA R.out.lt)
      have L := Lib.hid (L.out.below hA L.out.lt)
      obtain ⟨b_S, hbf⟩ : ∃ b, b = v12.heap.size := ⟨_, rfl⟩
      rw [← hbf] at hV ⊢
      have n_P_S := Lib.hid (show b_P ≠ b_S by omega)
      clear lt_P
      have n_R_S := Lib.hid (show b_R ≠ b_S by omega)
      clear lt_R
      have n_L_S := Lib.hid (show b_L ≠ b_S by omega)
      clear lt_L
      have g_S_D := Lib.hid (show w.heap.size ≤ b_S by rw [hbf]; exact gg_D)
      clear gg_D
      have S := Lib.hid hV
      clear hV hA hx13 hbf
      have c_P := P.out
      have P0 := c_P.c0
      have P1 := c_P.c1
      clear c_P
      have c_R := R.out
      have R0 := c_R.c0
      have R1 := c_R.c1
      have Rz := fun k => frozen_of_row _ b_R k _ _ c_R
      clear c_R
      have c_L := L.out
      have L0 := c_L.c0
      have L1 := c_L.c1
      have Lz := fun k => frozen_of_row _ b_L k _ _ c_L
      clear c_L
      have c_S := S.out
      have S0 := c_S.c0
      have S1 := c_S.c1
      have Sz := fun k => frozen_of_row _ b_S k _ _ c_S
      clear c_S
      go_wp2
      refine bodyPost_ret (Mv.results_cell_tmp rfl _ _ b_R _ _ _ _ _ rfl (So.set2 R.out) rfl Try.underlying35 rfl (by kernel_rfl)) rfl ⟨?_, (D.out.setCell (p := ⟨b_R, 0, none⟩) g_R_D.out _).setCell (p := ⟨b_R, 1, none⟩) g_R_D.out _⟩
      have hov : opV ls p xs K = ((0, 0), false) := by unfold opV; rw [if_pos (by omega)]
      rw [hov]
      rfl
    · obtain ⟨s, hs⟩ : ∃ s, s = xs.getD (J - 1) (0, 0) := ⟨_, rfl⟩
      have hsk : s = xs.getD (K - 2) (0, 0) := by rw [hs, show J - 1 = K - 2 by omega]
      have hk1 := nth_yes v J X (HT.out.later D.out) (by omega) (by omega) (by omega) hs.symm
      have h0 : ¬ xs.length < K - 1 := by omega
      have HSK := Lib.hid hsk
      clear hs hsk
      go_wp2_with fail
      refine (hk1).mono ?_
      rintro e v14 ⟨rfl, hb⟩
      clear P0 P1 R0 R1 Rz L0 L1 Lz
      have D := Lib.hid (below_on D.out hb)
      have P := Lib.hid (P.out.below hb P.out.lt)
      have R := Lib.hid (R.out.below hb R.out.lt)
      have L := Lib.hid (L.out.below hb L.out.lt)
      clear hb hk1
      go_upto_region 4 with fail
      obtain ⟨x15, hx15⟩ : ∃ x15, x15 = v14.alloc (.cells #[.int .i64 (s.1 : Int), .int .i64 (s.2 : Int)] 35) := ⟨_, rfl⟩
      have hA : Below v14.heap.size v14 x15 := by rw [hx15]; exact (Below.refl _ v14).alloc (Nat.le_refl _) _
      have hV := PosAt.new v14 (s.1 : Int) (s.2 : Int)
      rw [← hx15] at hV ⊢
      have lt_P := P.out.lt
      have lt_R := R.out.lt
      have lt_L := L.out.lt
      have gg_D := D.out.size
      have D := Lib.hid (below_on D.out hA)
      have P := Lib.hid (P.out.below hA P.out.lt)
      have R := Lib.hid (R.out.below hA R.out.lt)
      have L := Lib.hid (L.out.below hA L.out.lt)
      obtain ⟨b_S, hbf⟩ : ∃ b, b = v14.heap.size := ⟨_, rfl⟩
      rw [← hbf] at hV ⊢
      have n_P_S := Lib.hid (show b_P ≠ b_S by omega)
      clear lt_P
      have n_R_S := Lib.hid (show b_R ≠ b_S by omega)
      clear lt_R
      have n_L_S := Lib.hid (show b_L ≠ b_S by omega)
      clear lt_L
      have g_S_D := Lib.hid (show w.heap.size ≤ b_S by rw [hbf]; exact gg_D)
      clear gg_D
      have S := Lib.hid hV
      clear hV hA hx15 hbf
      have c_P := P.out
      have P0 := c_P.c0
      have P1 := c_P.c1
      clear c_P
      have c_R := R.out
      have R0 := c_R.c0
      have R1 := c_R.c1
      have Rz := fun k => frozen_of_row _ b_R k _ _ c_R
      clear c_R
      have c_L := L.out
      have L0 := c_L.c0
      have L1 := c_L.c1
      have Lz := fun k => frozen_of_row _ b_L k _ _ c_L
      clear c_L
      have c_S := S.out
      have S0 := c_S.c0
      have S1 := c_S.c1
      have Sz := fun k => frozen_of_row _ b_S k _ _ c_S
      clear c_S
      clear P0 P1 R0 R1 Rz L0 L1 Lz S0 S1 Sz
      have c_P := P.out
      have P0 := c_P.c0
      have P1 := c_P.c1
      clear c_P
      have c_R := R.out
      have R0 := c_R.c0
      have R1 := c_R.c1
      have Rz := fun k => frozen_of_row _ b_R k _ _ c_R
      clear c_R
      have c_L := L.out
      have L0 := c_L.c0
      have L1 := c_L.c1
      have Lz := fun k => frozen_of_row _ b_L k _ _ c_L
      clear c_L
      have c_S := S.out
      have S0 := c_S.c0
      have S1 := c_S.c1
      have Sz := fun k => frozen_of_row _ b_S k _ _ c_S
      clear c_S
      go_upto_region 7 with fail
      clear P0 P1 R0 R1 Rz L0 L1 Lz S0 S1 Sz
      obtain ⟨x16, hx16⟩ : ∃ x16, x16 = ((x15.setCell ⟨b_L, 0, none⟩ (.int .i64 (s.1 : Int))).setCell ⟨b_L, 1, none⟩ (.int .i64 (s.2 : Int))) := ⟨_, rfl⟩
      rw [← hx16]
      have D := Lib.hid (show Below w.heap.size w x16 by rw [hx16]; exact (D.out.setCell (p := ⟨b_L, 0, none⟩) g_L_D.out _).setCell (p := ⟨b_L, 1, none⟩) g_L_D.out _)
      have P := Lib.hid (show PosAt x16 b_P (p.1 : Int) (p.2 : Int) by rw [hx16]; exact (So.set2_other (n_P_L.out)).trans P.out)
      have R := Lib.hid (show PosAt x16 b_R 0 0 by rw [hx16]; exact (So.set2_other (n_R_L.out)).trans R.out)
      have L := Lib.hid (show PosAt x16 b_L (s.1 : Int) (s.2 : Int) by rw [hx16]; exact So.set2 L.out)
      have S := Lib.hid (show PosAt x16 b_S (s.1 : Int) (s.2 : Int) by rw [hx16]; exact (So.set2_other (n_L_S.out.symm)).trans S.out)
      clear hx16
      have c_P := P.out
      have P0 := c_P.c0
      have P1 := c_P.c1
      clear c_P
      have c_R := R.out
      have R0 := c_R.c0
      have R1 := c_R.c1
      have Rz := fun k => frozen_of_row _ b_R k _ _ c_R
      clear c_R
      have c_L := L.out
      have L0 := c_L.c0
      have L1 := c_L.c1
      have Lz := fun k => frozen_of_row _ b_L k _ _ c_L
      clear c_L
      have c_S := S.out
      have S0 := c_S.c0
      have S1 := c_S.c1
      have Sz := fun k => frozen_of_row _ b_S k _ _ c_S
      clear c_S
      clear hwj dk dk2
      by_cases hKl : K ≤ xs.length
      · obtain ⟨x, hx⟩ : ∃ x, x = xs.getD (K - 1) (0, 0) := ⟨_, rfl⟩
        have hxm : x ∈ xs := by
          rw [hx, List.getD_eq_getElem?_getD, List.getElem?_eq_getElem (by omega)]; exact List.getElem_mem _
        have hk2 := nth_yes v K x16 (HT.out.later D.out) hK hK2 (by omega) hx.symm
        have HXq := Lib.hid (And.intro hx hxm)
        clear hx hxm
        go_wp2_with fail
        refine (hk2).mono ?_
        rintro e v17 ⟨rfl, hb⟩
        clear P0 P1 R0 R1 Rz L0 L1 Lz S0 S1 Sz
        have D := Lib.hid (below_on D.out hb)
        have P := Lib.hid (P.out.below hb P.out.lt)
        have R := Lib.hid (R.out.below hb R.out.lt)
        have L := Lib.hid (L.out.below hb L.out.lt)
        have S := Lib.hid (S.out.below hb S.out.lt)
        clear hb hk2
        go_upto_region 8 with fail
        obtain ⟨x18, hx18⟩ : ∃ x18, x18 = v17.alloc (.cells #[.int .i64 (x.1 : Int), .int .i64 (x.2 : Int)] 35) := ⟨_, rfl⟩
        have hA : Below v17.heap.size v17 x18 := by rw [hx18]; exact (Below.refl _ v17).alloc (Nat.le_refl _) _
        have hV := PosAt.new v17 (x.1 : Int) (x.2 : Int)
        rw [← hx18] at hV ⊢
        have lt_P := P.out.lt
        have lt_R := R.out.lt
        have lt_L := L.out.lt
        have lt_S := S.out.lt
        have gg_D := D.out.size
        have D := Lib.hid (below_on D.out hA)
        have P := Lib.hid (P.out.below hA P.out.lt)
        have R := Lib.hid (R.out.below hA R.out.lt)
        have L := Lib.hid (L.out.below hA L.out.lt)
        have S := Lib.hid (S.out.below hA S.out.lt)
        obtain ⟨b_T, hbf⟩ : ∃ b, b = v17.heap.size := ⟨_, rfl⟩
        rw [← hbf] at hV ⊢
        have n_P_T := Lib.hid (show b_P ≠ b_T by omega)
        clear lt_P
        have n_R_T := Lib.hid (show b_R ≠ b_T by omega)
        clear lt_R
        have n_L_T := Lib.hid (show b_L ≠ b_T by omega)
        clear lt_L
        have n_S_T := Lib.hid (show b_S ≠ b_T by omega)
        clear lt_S
        have g_T_D := Lib.hid (show w.heap.size ≤ b_T by rw [hbf]; exact gg_D)
        clear gg_D
        have T := Lib.hid hV
        clear hV hA hx18 hbf
        have c_P := P.out
        have P0 := c_P.c0
        have P1 := c_P.c1
        clear c_P
        have c_R := R.out
        have R0 := c_R.c0
        have R1 := c_R.c1
        have Rz := fun k => frozen_of_row _ b_R k _ _ c_R
        clear c_R
        have c_L := L.out
        have L0 := c_L.c0
        have L1 := c_L.c1
        have Lz := fun k => frozen_of_row _ b_L k _ _ c_L
        clear c_L
        have c_S := S.out
        have S0 := c_S.c0
        have S1 := c_S.c1
        have Sz := fun k => frozen_of_row _ b_S k _ _ c_S
        clear c_S
        have c_T := T.out
        have T0 := c_T.c0
        have T1 := c_T.c1
        have Tz := fun k => frozen_of_row _ b_T k _ _ c_T
        clear c_T
        by_cases hl : s.1 < x.1
        · have dl : decide (s.1 < x.1) = true := decide_eq_true hl
          have HG := Lib.hid (opG_cut (ls := ls) (p := p) hKl HXq.out.1.symm ((if_pos (by omega)).trans HSK.out.symm) hl)
          have hfn : s.1 < n := by have := hxs x HXq.out.2; omega
          have hen := end_any a n c' ls s.1 x18 (SrcV.below HS.out D.out) hfn
          obtain ⟨t, ht⟩ : ∃ t, t = endP ls s.1 := ⟨_, rfl⟩
          rw [show ((lineAt ls s.1).size : Int) = t.2 from by rw [ht]; rfl] at hen
          have ht1 : s.1 = t.1 := by rw [ht]; rfl
          rw [← ht] at HG
          have HT1 := Lib.hid ht1
          clear ht hl ht1
          go_wp2_with fail
          refine (hen).mono ?_
          rintro e v19 ⟨rfl, hb⟩
          clear P0 P1 R0 R1 Rz L0 L1 Lz S0 S1 Sz T0 T1 Tz
          have D := Lib.hid (below_on D.out hb)
          have P := Lib.hid (P.out.below hb P.out.lt)
          have R := Lib.hid (R.out.below hb R.out.lt)
          have L := Lib.hid (L.out.below hb L.out.lt)
          have S := Lib.hid (S.out.below hb S.out.lt)
          have T := Lib.hid (T.out.below hb T.out.lt)
          clear hb hen
          have c_P := P.out
          have P0 := c_P.c0
          have P1 := c_P.c1
          clear c_P
          have c_R := R.out
          have R0 := c_R.c0
          have R1 := c_R.c1
          have Rz := fun k => frozen_of_row _ b_R k _ _ c_R
          clear c_R
          have c_L := L.out
          have L0 := c_L.c0
          have L1 := c_L.c1
          have Lz := fun k => frozen_of_row _ b_L k _ _ c_L
          clear c_L
          have c_S := S.out
          have S0 := c_S.c0
          have S1 := c_S.c1
          have Sz := fun k => frozen_of_row _ b_S k _ _ c_S
          clear c_S
          have c_T := T.out
          have T0 := c_T.c0
          have T1 := c_T.c1
          have Tz := fun k => frozen_of_row _ b_T k _ _ c_T
          clear c_T
          go_upto_region 12 with fail
          clear P0 P1 R0 R1 Rz L0 L1 Lz S0 S1 Sz T0 T1 Tz
          obtain ⟨x20, hx20⟩ : ∃ x20, x20 = ((v19.setCell ⟨b_T, 0, none⟩ (.int .i64 (s.1 : Int))).setCell ⟨b_T, 1, none⟩ (.int .i64 (t.2 : Int))) := ⟨_, rfl⟩
          rw [← hx20]
          have D := Lib.hid (show Below w.heap.size w x20 by rw [hx20]; exact (D.out.setCell (p := ⟨b_T, 0, none⟩) g_T_D.out _).setCell (p := ⟨b_T, 1, none⟩) g_T_D.out _)
          have P := Lib.hid (show PosAt x20 b_P (p.1 : Int) (p.2 : Int) by rw [hx20]; exact (So.set2_other (n_P_T.out)).trans P.out)
          have R := Lib.hid (show PosAt x20 b_R 0 0 by rw [hx20]; exact (So.set2_other (n_R_T.out)).trans R.out)
          have L := Lib.hid (show PosAt x20 b_L (s.1 : Int) (s.2 : Int) by rw [hx20]; exact (So.set2_other (n_L_T.out)).trans L.out)
          have S := Lib.hid (show PosAt x20 b_S (s.1 : Int) (s.2 : Int) by rw [hx20]; exact (So.set2_other (n_S_T.out)).trans S.out)
          have T := Lib.hid (show PosAt x20 b_T (s.1 : Int) (t.2 : Int) by rw [hx20]; exact So.set2 T.out)
          clear hx20
          have c_P := P.out
          have P0 := c_P.c0
          have P1 := c_P.c1
          clear c_P
          have c_R := R.out
          have R0 := c_R.c0
          have R1 := c_R.c1
          have Rz := fun k => frozen_of_row _ b_R k _ _ c_R
          clear c_R
          have c_L := L.out
          have L0 := c_L.c0
          have L1 := c_L.c1
          have Lz := fun k => frozen_of_row _ b_L k _ _ c_L
          clear c_L
          have c_S := S.out
          have S0 := c_S.c0
          have S1 := c_S.c1
          have Sz := fun k => frozen_of_row _ b_S k _ _ c_S
          clear c_S
          have c_T := T.out
          have T0 := c_T.c0
          have T1 := c_T.c1
          have Tz := fun k => frozen_of_row _ b_T k _ _ c_T
          clear c_T
          clear dl
          go_wp2_with fail
          have f_P0 := fun z : Gr x20 => z.cell P0
          have f_P1 := fun z : Gr x20 => z.cell P1
          have f_R0 := fun z : Gr x20 => z.cell R0
          have f_R1 := fun z : Gr x20 => z.cell R1
          have f_L0 := fun z : Gr x20 => z.cell L0
          have f_L1 := fun z : Gr x20 => z.cell L1
          have f_S0 := fun z : Gr x20 => z.cell S0
          have f_S1 := fun z : Gr x20 => z.cell S1
          have f_T0 := fun z : Gr x20 => z.cell T0
          have f_T1 := fun z : Gr x20 => z.cell T1
          clear P0 P1 R0 R1 Rz L0 L1 Lz S0 S1 Sz T0 T1 Tz
          refine wp_region_grow_tail 4 (by kernel_rfl) (by kernel_rfl) ?_
          simp only [List.take_succ_cons, List.take_zero, List.drop_succ_cons, List.drop_zero]
          repeat (go_big_quiet_step (first | (go_at_call 53; exact Calls.grow_of (So.less_any _ _ _ _ _))))
          refine wpQuiet_nil ?_
          rintro y21 ⟨⟨_, hb⟩, rfl⟩
          clear f_P0 f_P1 f_R0 f_R1 f_L0 f_L1 f_S0 f_S1 f_T0 f_T1
          have D := Lib.hid (below_on D.out hb)
          have P := Lib.hid (P.out.below hb P.out.lt)
          have R := Lib.hid (R.out.below hb R.out.lt)
          have L := Lib.hid (L.out.below hb L.out.lt)
          have S := Lib.hid (S.out.below hb S.out.lt)
          have T := Lib.hid (T.out.below hb T.out.lt)
          clear hb
          have c_P := P.out
          have P0 := c_P.c0
          have P1 := c_P.c1
          clear c_P
          have c_R := R.out
          have R0 := c_R.c0
          have R1 := c_R.c1
          have Rz := fun k => frozen_of_row _ b_R k _ _ c_R
          clear c_R
          have c_L := L.out
          have L0 := c_L.c0
          have L1 := c_L.c1
          have Lz := fun k => frozen_of_row _ b_L k _ _ c_L
          clear c_L
          have c_S := S.out
          have S0 := c_S.c0
          have S1 := c_S.c1
          have Sz := fun k => frozen_of_row _ b_S k _ _ c_S
          clear c_S
          have c_T := T.out
          have T0 := c_T.c0
          have T1 := c_T.c1
          have Tz := fun k => frozen_of_row _ b_T k _ _ c_T
          clear c_T
          go_wp2
          refine bodyPost_ret (Mv.results_cell_tmp rfl _ _ b_R _ _ _ _ _ rfl (So.set2 R.out) rfl Try.underlying35 rfl (by kernel_rfl)) rfl ⟨?_, (D.out.setCell (p := ⟨b_R, 0, none⟩) g_R_D.out _).setCell (p := ⟨b_R, 1, none⟩) g_R_D.out _⟩
          have hov : opV ls p xs K = (t, lp p t) := by
            have hg := HG.out
            unfold opV
            rw [if_neg (by omega), hg]
          rw [hov]
          unfold nthU lp
          rw [← HT1.out]
          rfl
        · have dl : decide (s.1 < x.1) = false := decide_eq_false hl
          have HG := Lib.hid (opG_at (ls := ls) (p := p) hKl HXq.out.1.symm ((if_pos (by omega)).trans HSK.out.symm) hl)
          clear hl
          go_wp2_with fail
          have f_P0 := fun z : Gr x18 => z.cell P0
          have f_P1 := fun z : Gr x18 => z.cell P1
          have f_R0 := fun z : Gr x18 => z.cell R0
          have f_R1 := fun z : Gr x18 => z.cell R1
          have f_L0 := fun z : Gr x18 => z.cell L0
          have f_L1 := fun z : Gr x18 => z.cell L1
          have f_S0 := fun z : Gr x18 => z.cell S0
          have f_S1 := fun z : Gr x18 => z.cell S1
          have f_T0 := fun z : Gr x18 => z.cell T0
          have f_T1 := fun z : Gr x18 => z.cell T1
          clear P0 P1 R0 R1 Rz L0 L1 Lz S0 S1 Sz T0 T1 Tz
          refine wp_region_grow_tail 4 (by kernel_rfl) (by kernel_rfl) ?_
          simp only [List.take_succ_cons, List.take_zero, List.drop_succ_cons, List.drop_zero]
          repeat (go_big_quiet_step (first | (go_at_call 53; exact Calls.grow_of (So.less_any _ _ _ _ _))))
          refine wpQuiet_nil ?_
          rintro y22 ⟨⟨_, hb⟩, rfl⟩
          clear f_P0 f_P1 f_R0 f_R1 f_L0 f_L1 f_S0 f_S1 f_T0 f_T1
          have D := Lib.hid (below_on D.out hb)
          have P := Lib.hid (P.out.below hb P.out.lt)
          have R := Lib.hid (R.out.below hb R.out.lt)
          have L := Lib.hid (L.out.below hb L.out.lt)
          have S := Lib.hid (S.out.below hb S.out.lt)
          have T := Lib.hid (T.out.below hb T.out.lt)
          clear hb
          have c_P := P.out
          have P0 := c_P.c0
          have P1 := c_P.c1
          clear c_P
          have c_R := R.out
          have R0 := c_R.c0
          have R1 := c_R.c1
          have Rz := fun k => frozen_of_row _ b_R k _ _ c_R
          clear c_R
          have c_L := L.out
          have L0 := c_L.c0
          have L1 := c_L.c1
          have Lz := fun k => frozen_of_row _ b_L k _ _ c_L
          clear c_L
          have c_S := S.out
          have S0 := c_S.c0
          have S1 := c_S.c1
          have Sz := fun k => frozen_of_row _ b_S k _ _ c_S
          clear c_S
          have c_T := T.out
          have T0 := c_T.c0
          have T1 := c_T.c1
          have Tz := fun k => frozen_of_row _ b_T k _ _ c_T
          clear c_T
          go_wp2
          refine bodyPost_ret (Mv.results_cell_tmp rfl _ _ b_R _ _ _ _ _ rfl (So.set2 R.out) rfl Try.underlying35 rfl (by kernel_rfl)) rfl ⟨?_, (D.out.setCell (p := ⟨b_R, 0, none⟩) g_R_D.out _).setCell (p := ⟨b_R, 1, none⟩) g_R_D.out _⟩
          have hov : opV ls p xs K = (x, lp p x) := by
            have hg := HG.out
            unfold opV
            rw [if_neg (by omega), hg]
          rw [hov]
          rfl
      · have hk2 := nth_no v K x16 (HT.out.later D.out) hK hK2 (by omega)
        go_wp2_with fail
        refine (hk2).mono ?_
        rintro e v23 ⟨rfl, hb⟩
        clear P0 P1 R0 R1 Rz L0 L1 Lz S0 S1 Sz
        have D := Lib.hid (below_on D.out hb)
        have P := Lib.hid (P.out.below hb P.out.lt)
        have R := Lib.hid (R.out.below hb R.out.lt)
        have L := Lib.hid (L.out.below hb L.out.lt)
        have S := Lib.hid (S.out.below hb S.out.lt)
        clear hb hk2
        go_upto_region 8 with fail
        obtain ⟨x24, hx24⟩ : ∃ x24, x24 = v23.alloc (.cells #[.int .i64 0, .int .i64 0] 35) := ⟨_, rfl⟩
        have hA : Below v23.heap.size v23 x24 := by rw [hx24]; exact (Below.refl _ v23).alloc (Nat.le_refl _) _
        have hV := PosAt.new v23 0 0
        rw [← hx24] at hV ⊢
        have lt_P := P.out.lt
        have lt_R := R.out.lt
        have lt_L := L.out.lt
        have lt_S := S.out.lt
        have gg_D := D.out.size
        have D := Lib.hid (below_on D.out hA)
        have P := Lib.hid (P.out.below hA P.out.lt)
        have R := Lib.hid (R.out.below hA R.out.lt)
        have L := Lib.hid (L.out.below hA L.out.lt)
        have S := Lib.hid (S.out.below hA S.out.lt)
        obtain ⟨b_T, hbf⟩ : ∃ b, b = v23.heap.size := ⟨_, rfl⟩
        rw [← hbf] at hV ⊢
        have n_P_T := Lib.hid (show b_P ≠ b_T by omega)
        clear lt_P
        have n_R_T := Lib.hid (show b_R ≠ b_T by omega)
        clear lt_R
        have n_L_T := Lib.hid (show b_L ≠ b_T by omega)
        clear lt_L
        have n_S_T := Lib.hid (show b_S ≠ b_T by omega)
        clear lt_S
        have g_T_D := Lib.hid (show w.heap.size ≤ b_T by rw [hbf]; exact gg_D)
        clear gg_D
        have T := Lib.hid hV
        clear hV hA hx24 hbf
        have c_P := P.out
        have P0 := c_P.c0
        have P1 := c_P.c1
        clear c_P
        have c_R := R.out
        have R0 := c_R.c0
        have R1 := c_R.c1
        have Rz := fun k => frozen_of_row _ b_R k _ _ c_R
        clear c_R
        have c_L := L.out
        have L0 := c_L.c0
        have L1 := c_L.c1
        have Lz := fun k => frozen_of_row _ b_L k _ _ c_L
        clear c_L
        have c_S := S.out
        have S0 := c_S.c0
        have S1 := c_S.c1
        have Sz := fun k => frozen_of_row _ b_S k _ _ c_S
        clear c_S
        have c_T := T.out
        have T0 := c_T.c0
        have T1 := c_T.c1
        have Tz := fun k => frozen_of_row _ b_T k _ _ c_T
        clear c_T
        obtain ⟨i, hi⟩ : ∃ i, i = n - 1 := ⟨_, rfl⟩
        have hwi : IntKind.i64.wrap ((n : Int) - 1) = (i : Int) := by rw [wrap_id (by omega) (by omega)]; omega
        have hen := end_any a n c' ls i x24 (SrcV.below HS.out D.out) (by omega)
        have HG := Lib.hid (show opG ls p xs K = endP ls i from by rw [opG_end (by omega), hlen, hi])
        obtain ⟨t, ht⟩ : ∃ t, t = endP ls i := ⟨_, rfl⟩
        rw [show ((lineAt ls i).size : Int) = t.2 from by rw [ht]; rfl] at hen
        have ht1 : i = t.1 := by rw [ht]; rfl
        rw [← ht] at HG
        have HT1 := Lib.hid ht1
        clear ht hi ht1
        go_wp2_with fail
        refine (hen).mono ?_
        rintro e v25 ⟨rfl, hb⟩
        clear P0 P1 R0 R1 Rz L0 L1 Lz S0 S1 Sz T0 T1 Tz
        have D := Lib.hid (below_on D.out hb)
        have P := Lib.hid (P.out.below hb P.out.lt)
        have R := Lib.hid (R.out.below hb R.out.lt)
        have L := Lib.hid (L.out.below hb L.out.lt)
        have S := Lib.hid (S.out.below hb S.out.lt)
        have T := Lib.hid (T.out.below hb T.out.lt)
        clear hb hen
        have c_P := P.out
        have P0 := c_P.c0
        have P1 := c_P.c1
        clear c_P
        have c_R := R.out
        have R0 := c_R.c0
        have R1 := c_R.c1
        have Rz := fun k => frozen_of_row _ b_R k _ _ c_R
        clear c_R
        have c_L := L.out
        have L0 := c_L.c0
        have L1 := c_L.c1
        have Lz := fun k => frozen_of_row _ b_L k _ _ c_L
        clear c_L
        have c_S := S.out
        have S0 := c_S.c0
        have S1 := c_S.c1
        have Sz := fun k => frozen_of_row _ b_S k _ _ c_S
        clear c_S
        have c_T := T.out
        have T0 := c_T.c0
        have T1 := c_T.c1
        have Tz := fun k => frozen_of_row _ b_T k _ _ c_T
        clear c_T
        go_upto_region 12 with fail
        clear P0 P1 R0 R1 Rz L0 L1 Lz S0 S1 Sz T0 T1 Tz
        obtain ⟨x26, hx26⟩ : ∃ x26, x26 = ((v25.setCell ⟨b_T, 0, none⟩ (.int .i64 (i : Int))).setCell ⟨b_T, 1, none⟩ (.int .i64 (t.2 : Int))) := ⟨_, rfl⟩
        rw [← hx26]
        have D := Lib.hid (show Below w.heap.size w x26 by rw [hx26]; exact (D.out.setCell (p := ⟨b_T, 0, none⟩) g_T_D.out _).setCell (p := ⟨b_T, 1, none⟩) g_T_D.out _)
        have P := Lib.hid (show PosAt x26 b_P (p.1 : Int) (p.2 : Int) by rw [hx26]; exact (So.set2_other (n_P_T.out)).trans P.out)
        have R := Lib.hid (show PosAt x26 b_R 0 0 by rw [hx26]; exact (So.set2_other (n_R_T.out)).trans R.out)
        have L := Lib.hid (show PosAt x26 b_L (s.1 : Int) (s.2 : Int) by rw [hx26]; exact (So.set2_other (n_L_T.out)).trans L.out)
        have S := Lib.hid (show PosAt x26 b_S (s.1 : Int) (s.2 : Int) by rw [hx26]; exact (So.set2_other (n_S_T.out)).trans S.out)
        have T := Lib.hid (show PosAt x26 b_T (i : Int) (t.2 : Int) by rw [hx26]; exact So.set2 T.out)
        clear hx26
        have c_P := P.out
        have P0 := c_P.c0
        have P1 := c_P.c1
        clear c_P
        have c_R := R.out
        have R0 := c_R.c0
        have R1 := c_R.c1
        have Rz := fun k => frozen_of_row _ b_R k _ _ c_R
        clear c_R
        have c_L := L.out
        have L0 := c_L.c0
        have L1 := c_L.c1
        have Lz := fun k => frozen_of_row _ b_L k _ _ c_L
        clear c_L
        have c_S := S.out
        have S0 := c_S.c0
        have S1 := c_S.c1
        have Sz := fun k => frozen_of_row _ b_S k _ _ c_S
        clear c_S
        have c_T := T.out
        have T0 := c_T.c0
        have T1 := c_T.c1
        have Tz := fun k => frozen_of_row _ b_T k _ _ c_T
        clear c_T
        clear hwi
        go_wp2_with fail
        have f_P0 := fun z : Gr x26 => z.cell P0
        have f_P1 := fun z : Gr x26 => z.cell P1
        have f_R0 := fun z : Gr x26 => z.cell R0
        have f_R1 := fun z : Gr x26 => z.cell R1
        have f_L0 := fun z : Gr x26 => z.cell L0
        have f_L1 := fun z : Gr x26 => z.cell L1
        have f_S0 := fun z : Gr x26 => z.cell S0
        have f_S1 := fun z : Gr x26 => z.cell S1
        have f_T0 := fun z : Gr x26 => z.cell T0
        have f_T1 := fun z : Gr x26 => z.cell T1
        clear P0 P1 R0 R1 Rz L0 L1 Lz S0 S1 Sz T0 T1 Tz
        refine wp_region_grow_tail 4 (by kernel_rfl) (by kernel_rfl) ?_
        simp only [List.take_succ_cons, List.take_zero, List.drop_succ_cons, List.drop_zero]
        repeat (go_big_quiet_step (first | (go_at_call 53; exact Calls.grow_of (So.less_any _ _ _ _ _))))
        refine wpQuiet_nil ?_
        rintro y27 ⟨⟨_, hb⟩, rfl⟩
        clear f_P0 f_P1 f_R0 f_R1 f_L0 f_L1 f_S0 f_S1 f_T0 f_T1
        have D := Lib.hid (below_on D.out hb)
        have P := Lib.hid (P.out.below hb P.out.lt)
        have R := Lib.hid (R.out.below hb R.out.lt)
        have L := Lib.hid (L.out.below hb L.out.lt)
        have S := Lib.hid (S.out.below hb S.out.lt)
        have T := Lib.hid (T.out.below hb T.out.lt)
        clear hb
        have c_P := P.out
        have P0 := c_P.c0
        have P1 := c_P.c1
        clear c_P
        have c_R := R.out
        have R0 := c_R.c0
        have R1 := c_R.c1
        have Rz := fun k => frozen_of_row _ b_R k _ _ c_R
        clear c_R
        have c_L := L.out
        have L0 := c_L.c0
        have L1 := c_L.c1
        have Lz := fun k => frozen_of_row _ b_L k _ _ c_L
        clear c_L
        have c_S := S.out
        have S0 := c_S.c0
        have S1 := c_S.c1
        have Sz := fun k => frozen_of_row _ b_S k _ _ c_S
        clear c_S
        have c_T := T.out
        have T0 := c_T.c0
        have T1 := c_T.c1
        have Tz := fun k => frozen_of_row _ b_T k _ _ c_T
        clear c_T
        go_wp2
        refine bodyPost_ret (Mv.results_cell_tmp rfl _ _ b_R _ _ _ _ _ rfl (So.set2 R.out) rfl Try.underlying35 rfl (by kernel_rfl)) rfl ⟨?_, (D.out.setCell (p := ⟨b_R, 0, none⟩) g_R_D.out _).setCell (p := ⟨b_R, 1, none⟩) g_R_D.out _⟩
        have hov : opV ls p xs K = (t, lp p t) := by
          have hg := HG.out
          unfold opV
          rw [if_neg (by omega), hg]
        rw [hov]
        unfold nthU lp
        rw [← HT1.out]
        rfl
  · have dk : decide ((1 : Int) < (K : Int)) = false := decide_eq_false (by omega)
    have dk2 : decide (1 < K) = false := decide_eq_false (by omega)
    have h0 : ¬ xs.length < K - 1 := by omega
    go_enter Try.func34, Try.ntmps34
    go_upto_region 2 with fail
    rw [← HXX.out.1, ← HXX.out.2.2.2, ← HXX.out.2.2.1, ← HXX.out.2.1]
    clear HXX
    have c_P := P.out
    have P0 := c_P.c0
    have P1 := c_P.c1
    clear c_P
    have c_R := R.out
    have R0 := c_R.c0
    have R1 := c_R.c1
    have Rz := fun k => frozen_of_row _ b_R k _ _ c_R
    clear c_R
    have c_L := L.out
    have L0 := c_L.c0
    have L1 := c_L.c1
    have Lz := fun k => frozen_of_row _ b_L k _ _ c_L
    clear c_L
    by_cases hKl : K ≤ xs.length
    · obtain ⟨x, hx⟩ : ∃ x, x = xs.getD (K - 1) (0, 0) := ⟨_, rfl⟩
      have hxm : x ∈ xs := by
        rw [hx, List.getD_eq_getElem?_getD, List.getElem?_eq_getElem (by omega)]; exact List.getElem_mem _
      have hk2 := nth_yes v K X (HT.out.later D.out) hK hK2 (by omega) hx.symm
      have HXq := Lib.hid (And.intro hx hxm)
      clear hx hxm
      go_wp2_with fail
      refine (hk2).mono ?_
      rintro e v1 ⟨rfl, hb⟩
      clear P0 P1 R0 R1 Rz L0 L1 Lz
      have D := Lib.hid (below_on D.out hb)
      have P := Lib.hid (P.out.below hb P.out.lt)
      have R := Lib.hid (R.out.below hb R.out.lt)
      have L := Lib.hid (L.out.below hb L.out.lt)
      clear hb hk2
      go_upto_region 8 with fail
      obtain ⟨x2, hx2⟩ : ∃ x2, x2 = v1.alloc (.cells #[.int .i64 (x.1 : Int), .int .i64 (x.2 : Int)] 35) := ⟨_, rfl⟩
      have hA : Below v1.heap.size v1 x2 := by rw [hx2]; exact (Below.refl _ v1).alloc (Nat.le_refl _) _
      have hV := PosAt.new v1 (x.1 : Int) (x.2 : Int)
      rw [← hx2] at hV ⊢
      have lt_P := P.out.lt
      have lt_R := R.out.lt
      have lt_L := L.out.lt
      have gg_D := D.out.size
      have D := Lib.hid (below_on D.out hA)
      have P := Lib.hid (P.out.below hA P.out.lt)
      have R := Lib.hid (R.out.below hA R.out.lt)
      have L := Lib.hid (L.out.below hA L.out.lt)
      obtain ⟨b_T, hbf⟩ : ∃ b, b = v1.heap.size := ⟨_, rfl⟩
      rw [← hbf] at hV ⊢
      have n_P_T := Lib.hid (show b_P ≠ b_T by omega)
      clear lt_P
      have n_R_T := Lib.hid (show b_R ≠ b_T by omega)
      clear lt_R
      have n_L_T := Lib.hid (show b_L ≠ b_T by omega)
      clear lt_L
      have g_T_D := Lib.hid (show w.heap.size ≤ b_T by rw [hbf]; exact gg_D)
      clear gg_D
      have T := Lib.hid hV
      clear hV hA hx2 hbf
      have c_P := P.out
      have P0 := c_P.c0
      have P1 := c_P.c1
      clear c_P
      have c_R := R.out
      have R0 := c_R.c0
      have R1 := c_R.c1
      have Rz := fun k => frozen_of_row _ b_R k _ _ c_R
      clear c_R
      have c_L := L.out
      have L0 := c_L.c0
      have L1 := c_L.c1
      have Lz := fun k => frozen_of_row _ b_L k _ _ c_L
      clear c_L
      have c_T := T.out
      have T0 := c_T.c0
      have T1 := c_T.c1
      have Tz := fun k => frozen_of_row _ b_T k _ _ c_T
      clear c_T
      by_cases hl : p.1 < x.1
      · have dl : decide (p.1 < x.1) = true := decide_eq_true hl
        have HG := Lib.hid (opG_cut (ls := ls) (p := p) hKl HXq.out.1.symm (if_neg (by omega)) hl)
        have hfn : p.1 < n := by have := hxs x HXq.out.2; omega
        have hen := end_any a n c' ls p.1 x2 (SrcV.below HS.out D.out) hfn
        obtain ⟨t, ht⟩ : ∃ t, t = endP ls p.1 := ⟨_, rfl⟩
        rw [show ((lineAt ls p.1).size : Int) = t.2 from by rw [ht]; rfl] at hen
        have ht1 : p.1 = t.1 := by rw [ht]; rfl
        rw [← ht] at HG
        have HT1 := Lib.hid ht1
        clear ht hl ht1
        go_wp2_with fail
        refine (hen).mono ?_
        rintro e v3 ⟨rfl, hb⟩
        clear P0 P1 R0 R1 Rz L0 L1 Lz T0 T1 Tz
        have D := Lib.hid (below_on D.out hb)
        have P := Lib.hid (P.out.below hb P.out.lt)
        have R := Lib.hid (R.out.below hb R.out.lt)
        have L := Lib.hid (L.out.below hb L.out.lt)
        have T := Lib.hid (T.out.below hb T.out.lt)
        clear hb hen
        have c_P := P.out
        have P0 := c_P.c0
        have P1 := c_P.c1
        clear c_P
        have c_R := R.out
        have R0 := c_R.c0
        have R1 := c_R.c1
        have Rz := fun k => frozen_of_row _ b_R k _ _ c_R
        clear c_R
        have c_L := L.out
        have L0 := c_L.c0
        have L1 := c_L.c1
        have Lz := fun k => frozen_of_row _ b_L k _ _ c_L
        clear c_L
        have c_T := T.out
        have T0 := c_T.c0
        have T1 := c_T.c1
        have Tz := fun k => frozen_of_row _ b_T k _ _ c_T
        clear c_T
        go_upto_region 12 with fail
        clear P0 P1 R0 R1 Rz L0 L1 Lz T0 T1 Tz
        obtain ⟨x4, hx4⟩ : ∃ x4, x4 = ((v3.setCell ⟨b_T, 0, none⟩ (.int .i64 (p.1 : Int))).setCell ⟨b_T, 1, none⟩ (.int .i64 (t.2 : Int))) := ⟨_, rfl⟩
        rw [← hx4]
        have D := Lib.hid (show Below w.heap.size w x4 by rw [hx4]; exact (D.out.setCell (p := ⟨b_T, 0, none⟩) g_T_D.out _).setCell (p := ⟨b_T, 1, none⟩) g_T_D.out _)
        have P := Lib.hid (show PosAt x4 b_P (p.1 : Int) (p.2 : Int) by rw [hx4]; exact (So.set2_other (n_P_T.out)).trans P.out)
        have R := Lib.hid (show PosAt x4 b_R 0 0 by rw [hx4]; exact (So.set2_other (n_R_T.out)).trans R.out)
        have L := Lib.hid (show PosAt x4 b_L (p.1 : Int) (p.2 : Int) by rw [hx4]; exact (So.set2_other (n_L_T.out)).trans L.out)
        have T := Lib.hid (show PosAt x4 b_T (p.1 : Int) (t.2 : Int) by rw [hx4]; exact So.set2 T.out)
        clear hx4
        have c_P := P.out
        have P0 := c_P.c0
        have P1 := c_P.c1
        clear c_P
        have c_R := R.out
        have R0 := c_R.c0
        have R1 := c_R.c1
        have Rz := fun k => frozen_of_row _ b_R k _ _ c_R
        clear c_R
        have c_L := L.out
        have L0 := c_L.c0
        have L1 := c_L.c1
        have Lz := fun k => frozen_of_row _ b_L k _ _ c_L
        clear c_L
        have c_T := T.out
        have T0 := c_T.c0
        have T1 := c_T.c1
        have Tz := fun k => frozen_of_row _ b_T k _ _ c_T
        clear c_T
        clear dl
        go_wp2_with fail
        have f_P0 := fun z : Gr x4 => z.cell P0
        have f_P1 := fun z : Gr x4 => z.cell P1
        have f_R0 := fun z : Gr x4 => z.cell R0
        have f_R1 := fun z : Gr x4 => z.cell R1
        have f_L0 := fun z : Gr x4 => z.cell L0
        have f_L1 := fun z : Gr x4 => z.cell L1
        have f_T0 := fun z : Gr x4 => z.cell T0
        have f_T1 := fun z : Gr x4 => z.cell T1
        clear P0 P1 R0 R1 Rz L0 L1 Lz T0 T1 Tz
        refine wp_region_grow_tail 4 (by kernel_rfl) (by kernel_rfl) ?_
        simp only [List.take_succ_cons, List.take_zero, List.drop_succ_cons, List.drop_zero]
        repeat (go_big_quiet_step (first | (go_at_call 53; exact Calls.grow_of (So.less_any _ _ _ _ _))))
        refine wpQuiet_nil ?_
        rintro y5 ⟨⟨_, hb⟩, rfl⟩
        clear f_P0 f_P1 f_R0 f_R1 f_L0 f_L1 f_T0 f_T1
        have D := Lib.hid (below_on D.out hb)
        have P := Lib.hid (P.out.below hb P.out.lt)
        have R := Lib.hid (R.out.below hb R.out.lt)
        have L := Lib.hid (L.out.below hb L.out.lt)
        have T := Lib.hid (T.out.below hb T.out.lt)
        clear hb
        have c_P := P.out
        have P0 := c_P.c0
        have P1 := c_P.c1
        clear c_P
        have c_R := R.out
        have R0 := c_R.c0
        have R1 := c_R.c1
        have Rz := fun k => frozen_of_row _ b_R k _ _ c_R
        clear c_R
        have c_L := L.out
        have L0 := c_L.c0
        have L1 := c_L.c1
        have Lz := fun k => frozen_of_row _ b_L k _ _ c_L
        clear c_L
        have c_T := T.out
        have T0 := c_T.c0
        have T1 := c_T.c1
        have Tz := fun k => frozen_of_row _ b_T k _ _ c_T
        clear c_T
        go_wp2
        refine bodyPost_ret (Mv.results_cell_tmp rfl _ _ b_R _ _ _ _ _ rfl (So.set2 R.out) rfl Try.underlying35 rfl (by kernel_rfl)) rfl ⟨?_, (D.out.setCell (p := ⟨b_R, 0, none⟩) g_R_D.out _).setCell (p := ⟨b_R, 1, none⟩) g_R_D.out _⟩
        have hov : opV ls p xs K = (t, lp p t) := by
          have hg := HG.out
          unfold opV
          rw [if_neg (by omega), hg]
        rw [hov]
        unfold nthU lp
        rw [← HT1.out]
        rfl
      · have dl : decide (p.1 < x.1) = false := decide_eq_false hl
        have HG := Lib.hid (opG_at (ls := ls) (p := p) hKl HXq.out.1.symm (if_neg (by omega)) hl)
        clear hl
        go_wp2_with fail
        have f_P0 := fun z : Gr x2 => z.cell P0
        have f_P1 := fun z : Gr x2 => z.cell P1
        have f_R0 := fun z : Gr x2 => z.cell R0
        have f_R1 := fun z : Gr x2 => z.cell R1
        have f_L0 := fun z : Gr x2 => z.cell L0
        have f_L1 := fun z : Gr x2 => z.cell L1
        have f_T0 := fun z : Gr x2 => z.cell T0
        have f_T1 := fun z : Gr x2 => z.cell T1
        clear P0 P1 R0 R1 Rz L0 L1 Lz T0 T1 Tz
        refine wp_region_grow_tail 4 (by kernel_rfl) (by kernel_rfl) ?_
        simp only [List.take_succ_cons, List.take_zero, List.drop_succ_cons, List.drop_zero]
        repeat (go_big_quiet_step (first | (go_at_call 53; exact Calls.grow_of (So.less_any _ _ _ _ _))))
        refine wpQuiet_nil ?_
        rintro y6 ⟨⟨_, hb⟩, rfl⟩
        clear f_P0 f_P1 f_R0 f_R1 f_L0 f_L1 f_T0 f_T1
        have D := Lib.hid (below_on D.out hb)
        have P := Lib.hid (P.out.below hb P.out.lt)
        have R := Lib.hid (R.out.below hb R.out.lt)
        have L := Lib.hid (L.out.below hb L.out.lt)
        have T := Lib.hid (T.out.below hb T.out.lt)
        clear hb
        have c_P := P.out
        have P0 := c_P.c0
        have P1 := c_P.c1
        clear c_P
        have c_R := R.out
        have R0 := c_R.c0
        have R1 := c_R.c1
        have Rz := fun k => frozen_of_row _ b_R k _ _ c_R
        clear c_R
        have c_L := L.out
        have L0 := c_L.c0
        have L1 := c_L.c1
        have Lz := fun k => frozen_of_row _ b_L k _ _ c_L
        clear c_L
        have c_T := T.out
        have T0 := c_T.c0
        have T1 := c_T.c1
        have Tz := fun k => frozen_of_row _ b_T k _ _ c_T
        clear c_T
        go_wp2
        refine bodyPost_ret (Mv.results_cell_tmp rfl _ _ b_R _ _ _ _ _ rfl (So.set2 R.out) rfl Try.underlying35 rfl (by kernel_rfl)) rfl ⟨?_, (D.out.setCell (p := ⟨b_R, 0, none⟩) g_R_D.out _).setCell (p := ⟨b_R, 1, none⟩) g_R_D.out _⟩
        have hov : opV ls p xs K = (x, lp p x) := by
          have hg := HG.out
          unfold opV
          rw [if_neg (by omega), hg]
        rw [hov]
        rfl
    · have hk2 := nth_no v K X (HT.out.later D.out) hK hK2 (by omega)
      go_wp2_with fail
      refine (hk2).mono ?_
      rintro e v7 ⟨rfl, hb⟩
      clear P0 P1 R0 R1 Rz L0 L1 Lz
      have D := Lib.hid (below_on D.out hb)
      have P := Lib.hid (P.out.below hb P.out.lt)
      have R := Lib.hid (R.out.below hb R.out.lt)
      have L := Lib.hid (L.out.below hb L.out.lt)
      clear hb hk2
      go_upto_region 8 with fail
      obtain ⟨x8, hx8⟩ : ∃ x8, x8 = v7.alloc (.cells #[.int .i64 0, .int .i64 0] 35) := ⟨_, rfl⟩
      have hA : Below v7.heap.size v7 x8 := by rw [hx8]; exact (Below.refl _ v7).alloc (Nat.le_refl _) _
      have hV := PosAt.new v7 0 0
      rw [← hx8] at hV ⊢
      have lt_P := P.out.lt
      have lt_R := R.out.lt
      have lt_L := L.out.lt
      have gg_D := D.out.size
      have D := Lib.hid (below_on D.out hA)
      have P := Lib.hid (P.out.below hA P.out.lt)
      have R := Lib.hid (R.out.below hA R.out.lt)
      have L := Lib.hid (L.out.below hA L.out.lt)
      obtain ⟨b_T, hbf⟩ : ∃ b, b = v7.heap.size := ⟨_, rfl⟩
      rw [← hbf] at hV ⊢
      have n_P_T := Lib.hid (show b_P ≠ b_T by omega)
      clear lt_P
      have n_R_T := Lib.hid (show b_R ≠ b_T by omega)
      clear lt_R
      have n_L_T := Lib.hid (show b_L ≠ b_T by omega)
      clear lt_L
      have g_T_D := Lib.hid (show w.heap.size ≤ b_T by rw [hbf]; exact gg_D)
      clear gg_D
      have T := Lib.hid hV
      clear hV hA hx8 hbf
      have c_P := P.out
      have P0 := c_P.c0
      have P1 := c_P.c1
      clear c_P
      have c_R := R.out
      have R0 := c_R.c0
      have R1 := c_R.c1
      have Rz := fun k => frozen_of_row _ b_R k _ _ c_R
      clear c_R
      have c_L := L.out
      have L0 := c_L.c0
      have L1 := c_L.c1
      have Lz := fun k => frozen_of_row _ b_L k _ _ c_L
      clear c_L
      have c_T := T.out
      have T0 := c_T.c0
      have T1 := c_T.c1
      have Tz := fun k => frozen_of_row _ b_T k _ _ c_T
      clear c_T
      obtain ⟨i, hi⟩ : ∃ i, i = n - 1 := ⟨_, rfl⟩
      have hwi : IntKind.i64.wrap ((n : Int) - 1) = (i : Int) := by rw [wrap_id (by omega) (by omega)]; omega
      have hen := end_any a n c' ls i x8 (SrcV.below HS.out D.out) (by omega)
      have HG := Lib.hid (show opG ls p xs K = endP ls i from by rw [opG_end (by omega), hlen, hi])
      obtain ⟨t, ht⟩ : ∃ t, t = endP ls i := ⟨_, rfl⟩
      rw [show ((lineAt ls i).size : Int) = t.2 from by rw [ht]; rfl] at hen
      have ht1 : i = t.1 := by rw [ht]; rfl
      rw [← ht] at HG
      have HT1 := Lib.hid ht1
      clear ht hi ht1
      go_wp2_with fail
      refine (hen).mono ?_
      rintro e v9 ⟨rfl, hb⟩
      clear P0 P1 R0 R1 Rz L0 L1 Lz T0 T1 Tz
      have D := Lib.hid (below_on D.out hb)
      have P := Lib.hid (P.out.below hb P.out.lt)
      have R := Lib.hid (R.out.below hb R.out.lt)
      have L := Lib.hid (L.out.below hb L.out.lt)
      have T := Lib.hid (T.out.below hb T.out.lt)
      clear hb hen
      have c_P := P.out
      have P0 := c_P.c0
      have P1 := c_P.c1
      clear c_P
      have c_R := R.out
      have R0 := c_R.c0
      have R1 := c_R.c1
      have Rz := fun k => frozen_of_row _ b_R k _ _ c_R
      clear c_R
      have c_L := L.out
      have L0 := c_L.c0
      have L1 := c_L.c1
      have Lz := fun k => frozen_of_row _ b_L k _ _ c_L
      clear c_L
      have c_T := T.out
      have T0 := c_T.c0
      have T1 := c_T.c1
      have Tz := fun k => frozen_of_row _ b_T k _ _ c_T
      clear c_T
      go_upto_region 12 with fail
      clear P0 P1 R0 R1 Rz L0 L1 Lz T0 T1 Tz
      obtain ⟨x10, hx10⟩ : ∃ x10, x10 = ((v9.setCell ⟨b_T, 0, none⟩ (.int .i64 (i : Int))).setCell ⟨b_T, 1, none⟩ (.int .i64 (t.2 : Int))) := ⟨_, rfl⟩
      rw [← hx10]
      have D := Lib.hid (show Below w.heap.size w x10 by rw [hx10]; exact (D.out.setCell (p := ⟨b_T, 0, none⟩) g_T_D.out _).setCell (p := ⟨b_T, 1, none⟩) g_T_D.out _)
      have P := Lib.hid (show PosAt x10 b_P (p.1 : Int) (p.2 : Int) by rw [hx10]; exact (So.set2_other (n_P_T.out)).trans P.out)
      have R := Lib.hid (show PosAt x10 b_R 0 0 by rw [hx10]; exact (So.set2_other (n_R_T.out)).trans R.out)
      have L := Lib.hid (show PosAt x10 b_L (p.1 : Int) (p.2 : Int) by rw [hx10]; exact (So.set2_other (n_L_T.out)).trans L.out)
      have T := Lib.hid (show PosAt x10 b_T (i : Int) (t.2 : Int) by rw [hx10]; exact So.set2 T.out)
      clear hx10
      have c_P := P.out
      have P0 := c_P.c0
      have P1 := c_P.c1
      clear c_P
      have c_R := R.out
      have R0 := c_R.c0
      have R1 := c_R.c1
      have Rz := fun k => frozen_of_row _ b_R k _ _ c_R
      clear c_R
      have c_L := L.out
      have L0 := c_L.c0
      have L1 := c_L.c1
      have Lz := fun k => frozen_of_row _ b_L k _ _ c_L
      clear c_L
      have c_T := T.out
      have T0 := c_T.c0
      have T1 := c_T.c1
      have Tz := fun k => frozen_of_row _ b_T k _ _ c_T
      clear c_T
      clear hwi
      go_wp2_with fail
      have f_P0 := fun z : Gr x10 => z.cell P0
      have f_P1 := fun z : Gr x10 => z.cell P1
      have f_R0 := fun z : Gr x10 => z.cell R0
      have f_R1 := fun z : Gr x10 => z.cell R1
      have f_L0 := fun z : Gr x10 => z.cell L0
      have f_L1 := fun z : Gr x10 => z.cell L1
      have f_T0 := fun z : Gr x10 => z.cell T0
      have f_T1 := fun z : Gr x10 => z.cell T1
      clear P0 P1 R0 R1 Rz L0 L1 Lz T0 T1 Tz
      refine wp_region_grow_tail 4 (by kernel_rfl) (by kernel_rfl) ?_
      simp only [List.take_succ_cons, List.take_zero, List.drop_succ_cons, List.drop_zero]
      repeat (go_big_quiet_step (first | (go_at_call 53; exact Calls.grow_of (So.less_any _ _ _ _ _))))
      refine wpQuiet_nil ?_
      rintro y11 ⟨⟨_, hb⟩, rfl⟩
      clear f_P0 f_P1 f_R0 f_R1 f_L0 f_L1 f_T0 f_T1
      have D := Lib.hid (below_on D.out hb)
      have P := Lib.hid (P.out.below hb P.out.lt)
      have R := Lib.hid (R.out.below hb R.out.lt)
      have L := Lib.hid (L.out.below hb L.out.lt)
      have T := Lib.hid (T.out.below hb T.out.lt)
      clear hb
      have c_P := P.out
      have P0 := c_P.c0
      have P1 := c_P.c1
      clear c_P
      have c_R := R.out
      have R0 := c_R.c0
      have R1 := c_R.c1
      have Rz := fun k => frozen_of_row _ b_R k _ _ c_R
      clear c_R
      have c_L := L.out
      have L0 := c_L.c0
      have L1 := c_L.c1
      have Lz := fun k => frozen_of_row _ b_L k _ _ c_L
      clear c_L
      have c_T := T.out
      have T0 := c_T.c0
      have T1 := c_T.c1
      have Tz := fun k => frozen_of_row _ b_T k _ _ c_T
      clear c_T
      go_wp2
      refine bodyPost_ret (Mv.results_cell_tmp rfl _ _ b_R _ _ _ _ _ rfl (So.set2 R.out) rfl Try.underlying35 rfl (by kernel_rfl)) rfl ⟨?_, (D.out.setCell (p := ⟨b_R, 0, none⟩) g_R_D.out _).setCell (p := ⟨b_R, 1, none⟩) g_R_D.out _⟩
      have hov : opV ls p xs K = (t, lp p t) := by
        have hg := HG.out
        unfold opV
        rw [if_neg (by omega), hg]
      rw [hov]
      unfold nthU lp
      rw [← HT1.out]
      rfl
end Go.Proofs.Ytdgckgfbdplnpaa.Wd
