/-
  The law ParaCounts, walked.
-/
import Derived.Test.YtnngcminomooeaaXKn
set_option linter.unusedVariables false
set_option linter.unusedSimpArgs false
set_option maxRecDepth 100000
namespace Go.Proofs.Ytnngcminomooeaa.XCo
open Go Go.RowKit Go.Proofs.Ytnngcminomooeaa.Vk Go.Proofs.Ytnngcminomooeaa.Str Go.Proofs.Ytnngcminomooeaa.Ln Go.Proofs.Ytnngcminomooeaa.Cl Go.Proofs.Ytnngcminomooeaa.Mv Go.Proofs.Ytnngcminomooeaa.Wd Go.Proofs.Ytnngcminomooeaa.Pa Go.Proofs.Ytnngcminomooeaa.Po
open Go.Proofs.Ytnngcminomooeaa.Wo (cn Rg RN On rgv RgAt putR putR_below eq_rng ne_rng)
attribute [local go_sem] Oper.semAt_some
set_option maxHeartbeats 8000000

theorem at_fst {s : ByteArray} {b : Bool} {n : Nat} {l : List RN} (h : Rg s b n l) {k : Nat} (hk : k < l.length) : Wo.At l (l[k]).1 k :=
  ⟨hk, Nat.le_refl _, h.ne k hk, fun j hj => h.lt j k hj hk, fun j hj hl => by have := h.lt k j hj hl; have := h.ne k hk; omega⟩
theorem on_col {ls : List ByteArray} {i : Nat} (h : i < ls.length) : On ls i (0 : Nat) := Wo.On.of h (by omega)
/-- m blocks from the K-th on, which has line i. -/
theorem in_some {ls : List ByteArray} {i K m : Nat} (h : Wo.At (bls ls) i K) (hi : i < ls.length) (hm : 1 ≤ m) (hK : K + m ≤ (bls ls).length) :
    anP (inP ls i 0 m) = .tuple #[rgv 1 ((bls ls).getD K (0, 0)).1 0 ((((bls ls).getD (K + m - 1) (0, 0)).2 - 1 : Nat) : Int) 0, .bool true] := by
  have := inP_yes (on_col hi) hm
  rw [show (((0 : Nat) : Int)) = 0 from rfl] at this
  rw [this, h.cn (bls_rg ls)]
  unfold inB
  rw [if_pos hK]; rfl
theorem in_none {ls : List ByteArray} {i K m : Nat} (h : Wo.At (bls ls) i K) (hi : i < ls.length) (hm : 1 ≤ m) (hK : (bls ls).length < K + m) :
    anP (inP ls i 0 m) = .tuple #[rgv 0 0 0 0 0, .bool false] := by
  have := inP_yes (on_col hi) hm
  rw [show (((0 : Nat) : Int)) = 0 from rfl] at this
  rw [this, h.cn (bls_rg ls)]
  unfold inB
  rw [if_neg (by omega)]; rfl

theorem walk (a : Option Addr) (n c' : Nat) (ls : List ByteArray) (x q : Int) (w : World) (h : Ss w a n c' ls) (hs : ∀ s ∈ ls, s.size ≤ 140737488355328) (hx : (Lit.int .u8 x).wf = true) (hq0 : (Lit.int .u8 q).wf = true) :
    Calls Try.prog 5 #[.slice a n c', .int .u8 x, .int .u8 q] w fun e w' => e = .returned (.bool true) ∧ Below w.heap.size w w' := by
  have hk := known_any w
  have x2 : 0 ≤ x ∧ x ≤ 255 := by simpa [Lit.wf, IntKind.min, IntKind.max, IntKind.signed, IntKind.bits] using hx
  have q2 : 0 ≤ q ∧ q ≤ 255 := by simpa [Lit.wf, IntKind.min, IntKind.max, IntKind.signed, IntKind.bits] using hq0
  obtain ⟨G, hG, hG5⟩ : ∃ G : Nat, q % 5 = (G : Int) ∧ G < 5 := ⟨(q % 5).toNat, by omega, by omega⟩
  have hGt : q.tmod 5 = (G : Int) := by rw [Int.tmod_eq_emod_of_nonneg q2.1]; exact hG
  have hwG : IntKind.i64.wrap (G : Int) = (G : Int) := by rw [IntKind.wrap_i64]; omega
  have hwG8 : IntKind.u8.wrap (G : Int) = (G : Int) := by simp [IntKind.wrap, IntKind.bits, IntKind.signed]; omega
  obtain ⟨C, hC1, hC2⟩ : ∃ C, G + 1 ≤ C ∧ C ≤ G + 1 := ⟨G + 1, by omega, by omega⟩
  have hwC : IntKind.i64.wrap ((G : Int) + 1) = (C : Int) := by rw [IntKind.wrap_i64]; omega
  have hwx : IntKind.i64.wrap x = x := by rw [IntKind.wrap_i64]; omega
  go_enter Try.func5, Try.ntmps5
  go_wp2_with fail
  refine hk.mono ?_
  rintro e w1 ⟨rfl, hb1⟩
  have HB1 := Lib.hid hb1
  have hs1 : Ss w1 a n c' ls := SrcV.below h hb1
  have htx := text_any a n c' ls w1 hs1 hs
  clear hk hb1 h
  go_wp2_with fail
  refine htx.mono ?_
  rintro e w' ⟨qq, rfl, rfl, hq⟩
  clear htx
  cases qq
  · clear hq
    go_wp2
    go_ret
    exact ⟨rfl, HB1.out⟩
  obtain ⟨hn0, hn40, hz, _⟩ := hq rfl
  clear hq
  have HS := Lib.hid hs1
  have D := Lib.hid (Below.refl w1.heap.size w1)
  have hlen := hs1.length
  obtain ⟨pl, hP⟩ : ∃ P : Nat, x.tmod (n : Int) = (P : Int) ∧ P < n := by
    have h1 := Int.tmod_lt_of_pos x (show (0 : Int) < (n : Int) by omega)
    have h2 := Int.tmod_nonneg (b := (n : Int)) x2.1
    exact ⟨(x.tmod (n : Int)).toNat, by omega, by omega⟩
  have hPt := hP.1
  have hPn := hP.2
  have hPx : x % (n : Int) = (pl : Int) := by rw [← hPt, Int.tmod_eq_emod_of_nonneg x2.1]
  have hwP : IntKind.i64.wrap (pl : Int) = (pl : Int) := by rw [IntKind.wrap_i64]; omega
  have hz0 : ((n : Int) == 0) = false := by rw [beq_eq_false_iff_ne]; omega
  have hz1 : ¬ (n : Int) = 0 := by omega
  have hz2 : ¬ n = 0 := by omega
  obtain ⟨K, hAt⟩ := (bls_rg ls).at (c := pl) (by omega)
  have hKl := hAt.lt
  have hsome := fun (m : Nat) (hm : 1 ≤ m) => in_some (m := m) hAt (by omega) hm
  have hnone := fun (m : Nat) (hm : 1 ≤ m) => in_none (m := m) hAt (by omega) hm
  have hnext : ∀ j, (hj : j < (bls ls).length) → anP (inP ls (((bls ls).getD j (0, 0)).1 : Nat) 0 1) = .tuple #[rgv 1 ((bls ls).getD j (0, 0)).1 0 ((((bls ls).getD j (0, 0)).2 - 1 : Nat) : Int) 0, .bool true] := fun j hj => by
    have h1 := at_fst (bls_rg ls) hj
    rw [← getD_at hj] at h1
    have h2 := bls_at hj
    rw [← getD_at hj] at h2
    have := in_some (m := 1) h1 (by omega) (Nat.le_refl _) (by omega)
    simpa using this
  have hf1 : ((bls ls).getD K (0, 0)).1 ≤ pl := by rw [getD_at hKl]; exact hAt.fst
  have hf2 : pl < ((bls ls).getD K (0, 0)).2 := by rw [getD_at hKl]; exact hAt.snd
  have hstep : ∀ j, j + 1 < (bls ls).length → ((bls ls).getD (j + 1) (0, 0)).1 = ((bls ls).getD j (0, 0)).2 := fun j hj => by
    rw [getD_at hj, getD_at (by omega)]; exact (bls_rg ls).next j hj
  have hlast : ∀ j, j + 1 = (bls ls).length → ((bls ls).getD j (0, 0)).2 = n := fun j hj => by
    rw [getD_at (by omega), ← hlen]; exact (bls_rg ls).last j hj
  have hbd : ∀ j, j < (bls ls).length → ((bls ls).getD j (0, 0)).1 < ((bls ls).getD j (0, 0)).2 ∧ ((bls ls).getD j (0, 0)).2 ≤ n := fun j hj => by
    rw [getD_at hj, ← hlen]; exact bls_at hj
  have hl40 : (bls ls).length ≤ 40 := by have := bls_len ls; omega
  generalize bls ls = L at *
  have HSO := Lib.hid hsome
  have HNO := Lib.hid hnone
  have HNX := Lib.hid hnext
  have HST := Lib.hid hstep
  have HLA := Lib.hid hlast
  have HBD := Lib.hid hbd
  clear hP hs1 hAt hsome hnone hnext hstep hlast hbd
  go_upto_region 6 with fail
  obtain ⟨x3, hx3⟩ : ∃ x3, x3 = w1.alloc (.cells #[.int .i64 pl, .int .i64 0] 36) := ⟨_, rfl⟩
  have hA : Below w1.heap.size w1 x3 := by rw [hx3]; exact (Below.refl _ w1).alloc (Nat.le_refl _) _
  have hV := PosAt.new w1 pl 0
  rw [← hx3] at hV ⊢
  have gg_D := D.out.size
  have D := Lib.hid (below_on D.out hA)
  obtain ⟨b_P, hbf⟩ : ∃ b, b = w1.heap.size := ⟨_, rfl⟩
  rw [← hbf] at hV ⊢
  have g_P_D := Lib.hid (show w1.heap.size ≤ b_P by rw [hbf]; exact gg_D)
  clear gg_D
  have P := Lib.hid hV
  clear hV hA hx3 hbf
  have c_P := P.out
  have P0 := c_P.c0
  have P1 := c_P.c1
  clear c_P
  clear P0 P1
  clear hPt hPx hwP hz0 hz1 hz2 hwx
  go_wp2
  have HCC := Lib.hid (And.intro hC1 (And.intro hC2 hG5))
  clear hwC hwG hwG8 hGt hG hG5 hC1 hC2
  have HF12 := Lib.hid (And.intro hf1 hf2)
  clear hf1 hf2
  go_loopw [9, 10, 11, 12] (fun f t o i wr => ∃ (j : Nat) (F T : Int), f = .int .i64 F ∧ t = .int .i64 T ∧ o = .bool true ∧ i = .int .i64 j ∧ Hid (j ≤ C ∧ (0 < j → K + j ≤ L.length ∧ F = (L.getD K (0, 0)).1 ∧ T = (((L.getD (K + j - 1) (0, 0)).2 - 1 : Nat) : Int)) ∧ Below x3.heap.size x3 wr)) (fun _ _ _ i _ => C - (RowKit.intOf i).toNat)
  case atStart => exact ⟨0, 0, -1, rfl, rfl, rfl, rfl, Nat.zero_le _, fun hh => by omega, Below.refl _ _⟩
  case round =>
    obtain ⟨j, F, T, rfl, rfl, rfl, rfl, hR⟩ := hrel
    obtain ⟨hjC, hjj, hbr⟩ := hR.out
    have E := Lib.hid hbr
    have D := Lib.hid (below_on D.out hbr)
    have P := Lib.hid (P.out.below hbr P.out.lt)
    have hC6 : C ≤ 5 := by have := HCC.out; omega
    clear hR
    by_cases hjn : j < C
    rotate_left
    · obtain rfl : j = C := by omega
      obtain ⟨hKC, hF, hT⟩ := hjj (by have := HCC.out; omega)
      have e0 : decide (j < j) = false := decide_eq_false hjn
      have e1 : decide ((j : Int) < (j : Int)) = false := decide_eq_false (by omega)
      clear hjn hjC hjj hbr
      have cC := fun W (hW : Below w1.heap.size w1 W) => inner_any a n c' ls pl 0 j W (SrcV.below HS.out hW) hs (by omega)
      rw [HSO.out j (by have := HCC.out; omega) hKC] at cC
      obtain ⟨A, hA⟩ : ∃ A, A = (L.getD K (0, 0)).1 := ⟨_, rfl⟩
      obtain ⟨B, hB⟩ : ∃ B, B = (L.getD (K + j - 1) (0, 0)).2 - 1 := ⟨_, rfl⟩
      rw [← hA, ← hB] at cC
      rw [← hA] at hF
      rw [← hB] at hT
      subst hF hT
      have he := fun W => eq_rng 1 A 0 B 0 1 A 0 B 0 W
      simp only [decide_true, Bool.and_self, and_self] at he
      clear hA hB
      have c_P := P.out
      have P0 := c_P.c0
      have P1 := c_P.c1
      clear c_P
      go_wp2_with fail
      refine (cC _ D.out).mono ?_
      rintro e v7 ⟨rfl, hb⟩
      clear P0 P1
      have D := Lib.hid (below_on D.out hb)
      have E := Lib.hid (below_on E.out hb)
      have P := Lib.hid (P.out.below hb P.out.lt)
      clear hb cC
      go_upto_region 23 with fail
      obtain ⟨v8, hv8⟩ : ∃ v8, v8 = v7.alloc (.cells #[.int .i64 1, .int .i64 A, .int .i64 0, .int .i64 B, .int .i64 0] 42) := ⟨_, rfl⟩
      have hA : Below v7.heap.size v7 v8 := by rw [hv8]; exact (Below.refl _ v7).alloc (Nat.le_refl _) _
      have hV := RgAt.new v7 1 A 0 B 0
      rw [← hv8] at hV ⊢
      have lt_P := P.out.lt
      have gg_D := D.out.size
      have gg_E := E.out.size
      have D := Lib.hid (below_on D.out hA)
      have E := Lib.hid (below_on E.out hA)
      have P := Lib.hid (P.out.below hA P.out.lt)
      obtain ⟨b_R, hbf⟩ : ∃ b, b = v7.heap.size := ⟨_, rfl⟩
      rw [← hbf] at hV ⊢
      have n_P_R := Lib.hid (show b_P ≠ b_R by omega)
      clear lt_P
      have g_R_D := Lib.hid (show w1.heap.size ≤ b_R by rw [hbf]; exact gg_D)
      clear gg_D
      have g_R_E := Lib.hid (show x3.heap.size ≤ b_R by rw [hbf]; exact gg_E)
      clear gg_E
      have R := Lib.hid hV
      clear hV hA hv8 hbf
      have c_P := P.out
      have P0 := c_P.c0
      have P1 := c_P.c1
      clear c_P
      have c_R := R.out
      have R0 := c_R.c0
      have R1 := c_R.c1
      have R2 := c_R.c2
      have R3 := c_R.c3
      have R4 := c_R.c4
      clear c_R
      go_wp2
      go_ret
      exact ⟨rfl, below_on HB1.out D.out⟩
    have e0 : decide (j < C) = true := decide_eq_true hjn
    have e1 : (j : Int) < (C : Int) := by omega
    obtain ⟨M, hM⟩ : ∃ M, M = j + 1 := ⟨_, rfl⟩
    have hwM : IntKind.i64.wrap ((j : Int) + 1) = (M : Int) := by rw [IntKind.wrap_i64]; omega
    have HM := Lib.hid (And.intro hM hjn)
    clear hM
    have c_P := P.out
    have P0 := c_P.c0
    have P1 := c_P.c1
    clear c_P
    go_upto_region 12 with fail
    obtain ⟨y1, hy1⟩ : ∃ y1, y1 = wr.alloc (.cells #[.int .i64 pl, .int .i64 0] 36) := ⟨_, rfl⟩
    have hA : Below wr.heap.size wr y1 := by rw [hy1]; exact (Below.refl _ wr).alloc (Nat.le_refl _) _
    have hV := PosAt.new wr pl 0
    rw [← hy1] at hV ⊢
    have lt_P := P.out.lt
    have gg_D := D.out.size
    have gg_E := E.out.size
    have D := Lib.hid (below_on D.out hA)
    have E := Lib.hid (below_on E.out hA)
    have P := Lib.hid (P.out.below hA P.out.lt)
    obtain ⟨b_X, hbf⟩ : ∃ b, b = wr.heap.size := ⟨_, rfl⟩
    rw [← hbf] at hV ⊢
    have n_P_X := Lib.hid (show b_P ≠ b_X by omega)
    clear lt_P
    have g_X_D := Lib.hid (show w1.heap.size ≤ b_X by rw [hbf]; exact gg_D)
    clear gg_D
    have g_X_E := Lib.hid (show x3.heap.size ≤ b_X by rw [hbf]; exact gg_E)
    clear gg_E
    have X := Lib.hid hV
    clear hV hA hy1 hbf
    clear P0 P1
    have c_P := P.out
    have P0 := c_P.c0
    have P1 := c_P.c1
    clear c_P
    have c_X := X.out
    have X0 := c_X.c0
    have X1 := c_X.c1
    clear c_X
    by_cases hj0 : 0 < j
    rotate_left
    · have hjz : j = 0 := by omega
      have d6 : decide (0 < j) = false := decide_eq_false hj0
      have d7 : decide ((0 : Int) < (j : Int)) = false := decide_eq_false (by omega)
      have d8 : ((j : Int) == 0) = true := by rw [beq_iff_eq]; omega
      have d9 : (j == 0) = true := by rw [beq_iff_eq]; omega
      have HJZ := Lib.hid hjz
      clear hjz
      have c1 := fun W (hW : Below w1.heap.size w1 W) => inner_any a n c' ls pl 0 1 W (SrcV.below HS.out hW) hs (by omega)
      have h1 := HSO.out 1 (by omega) (by omega)
      rw [show ((1 : Nat) : Int) = 1 from rfl, show K + 1 - 1 = K by omega] at h1
      rw [h1] at c1
      obtain ⟨hf1, hf2⟩ := HF12.out
      obtain ⟨A, hA⟩ : ∃ A, A = (L.getD K (0, 0)).1 := ⟨_, rfl⟩
      obtain ⟨B, hB⟩ : ∃ B, B = (L.getD K (0, 0)).2 - 1 := ⟨_, rfl⟩
      rw [← hA, ← hB] at c1
      have d0 : decide (n ≤ pl) = false := decide_eq_false (by omega)
      have d1 : decide ((n : Int) ≤ (pl : Int)) = false := decide_eq_false (by omega)
      have d2 : decide (pl < A) = false := decide_eq_false (by omega)
      have d3 : decide ((pl : Int) < (A : Int)) = false := decide_eq_false (by omega)
      have d4 : decide (B < pl) = false := decide_eq_false (by omega)
      have d5 : decide ((B : Int) < (pl : Int)) = false := decide_eq_false (by omega)
      have HAB := Lib.hid (And.intro hA hB)
      clear h1 hf1 hf2 hA hB hj0 hjj hjC hbr
      clear P0 P1 X0 X1
      have c_P := P.out
      have P0 := c_P.c0
      have P1 := c_P.c1
      clear c_P
      have c_X := X.out
      have X0 := c_X.c0
      have X1 := c_X.c1
      clear c_X
      go_wp2_with fail
      refine (c1 _ D.out).mono ?_
      rintro e v3 ⟨rfl, hb⟩
      clear P0 P1 X0 X1
      have D := Lib.hid (below_on D.out hb)
      have E := Lib.hid (below_on E.out hb)
      have P := Lib.hid (P.out.below hb P.out.lt)
      have X := Lib.hid (X.out.below hb X.out.lt)
      clear hb c1
      have c_P := P.out
      have P0 := c_P.c0
      have P1 := c_P.c1
      clear c_P
      have c_X := X.out
      have X0 := c_X.c0
      have X1 := c_X.c1
      clear c_X
      go_upto_region 17 with fail
      obtain ⟨y4, hy4⟩ : ∃ y4, y4 = v3.alloc (.cells #[.int .i64 1, .int .i64 A, .int .i64 0, .int .i64 B, .int .i64 0] 42) := ⟨_, rfl⟩
      have hA : Below v3.heap.size v3 y4 := by rw [hy4]; exact (Below.refl _ v3).alloc (Nat.le_refl _) _
      have hV := RgAt.new v3 1 A 0 B 0
      rw [← hy4] at hV ⊢
      have lt_P := P.out.lt
      have lt_X := X.out.lt
      have gg_D := D.out.size
      have gg_E := E.out.size
      have D := Lib.hid (below_on D.out hA)
      have E := Lib.hid (below_on E.out hA)
      have P := Lib.hid (P.out.below hA P.out.lt)
      have X := Lib.hid (X.out.below hA X.out.lt)
      obtain ⟨b_V, hbf⟩ : ∃ b, b = v3.heap.size := ⟨_, rfl⟩
      rw [← hbf] at hV ⊢
      have n_P_V := Lib.hid (show b_P ≠ b_V by omega)
      clear lt_P
      have n_X_V := Lib.hid (show b_X ≠ b_V by omega)
      clear lt_X
      have g_V_D := Lib.hid (show w1.heap.size ≤ b_V by rw [hbf]; exact gg_D)
      clear gg_D
      have g_V_E := Lib.hid (show x3.heap.size ≤ b_V by rw [hbf]; exact gg_E)
      clear gg_E
      have V := Lib.hid hV
      clear hV hA hy4 hbf
      clear P0 P1 X0 X1
      have c_P := P.out
      have P0 := c_P.c0
      have P1 := c_P.c1
      clear c_P
      have c_X := X.out
      have X0 := c_X.c0
      have X1 := c_X.c1
      clear c_X
      have c_V := V.out
      have V0 := c_V.c0
      have V1 := c_V.c1
      have V2 := c_V.c2
      have V3 := c_V.c3
      have V4 := c_V.c4
      clear c_V
      go_wp2
      go_roundw
      case rel => exact ⟨M, A, B, rfl, rfl, rfl, rfl, by have := HM.out; omega, fun _ => ⟨by have := HM.out; have := HJZ.out; omega, by rw [HAB.out.1], by rw [HAB.out.2, show K + M - 1 = K by have := HM.out; have := HJZ.out; omega]⟩, E.out⟩
      case measure => have := HM.out; simp [RowKit.intOf]; omega
    obtain ⟨hKj, hF, hT⟩ := hjj hj0
    have d6 : decide (0 < j) = true := decide_eq_true hj0
    have d7 : decide ((0 : Int) < (j : Int)) = true := decide_eq_true (by omega)
    have d8 : ((j : Int) == 0) = false := by rw [beq_eq_false_iff_ne]; omega
    have d9 : (j == 0) = false := by rw [beq_eq_false_iff_ne]; omega
    obtain ⟨hb1', hb2'⟩ := HBD.out (K + j - 1) (by omega)
    obtain ⟨S, hS⟩ : ∃ S, S = (L.getD (K + j - 1) (0, 0)).2 := ⟨_, rfl⟩
    rw [← hS] at hT hb1' hb2'
    have hwT : IntKind.i64.wrap (T + 1) = (S : Int) := by rw [IntKind.wrap_i64]; omega
    have HS2 := Lib.hid hS
    have HFT := Lib.hid (And.intro hF hT)
    clear hF hT hS hjj hbr
    clear P0 P1 X0 X1
    have c_P := P.out
    have P0 := c_P.c0
    have P1 := c_P.c1
    clear c_P
    have c_X := X.out
    have X0 := c_X.c0
    have X1 := c_X.c1
    have Xz := fun k => frozen_of_row _ b_X k _ _ c_X
    clear c_X
    go_upto_region 14 with fail
    clear P0 P1 X0 X1 Xz
    obtain ⟨y2, hy2⟩ : ∃ y2, y2 = ((y1.setCell ⟨b_X, 0, none⟩ (.int .i64 S)).setCell ⟨b_X, 1, none⟩ (.int .i64 0)) := ⟨_, rfl⟩
    rw [← hy2]
    have D := Lib.hid (show Below w1.heap.size w1 y2 by rw [hy2]; exact (D.out.setCell (p := ⟨b_X, 0, none⟩) g_X_D.out _).setCell (p := ⟨b_X, 1, none⟩) g_X_D.out _)
    have E := Lib.hid (show Below x3.heap.size x3 y2 by rw [hy2]; exact (E.out.setCell (p := ⟨b_X, 0, none⟩) g_X_E.out _).setCell (p := ⟨b_X, 1, none⟩) g_X_E.out _)
    have P := Lib.hid (show PosAt y2 b_P pl 0 by rw [hy2]; exact (So.set2_other (n_P_X.out)).trans P.out)
    have X := Lib.hid (show PosAt y2 b_X S 0 by rw [hy2]; exact So.set2 X.out)
    clear hy2
    have c_P := P.out
    have P0 := c_P.c0
    have P1 := c_P.c1
    clear c_P
    have c_X := X.out
    have X0 := c_X.c0
    have X1 := c_X.c1
    have Xz := fun k => frozen_of_row _ b_X k _ _ c_X
    clear c_X
    clear d6 d7 hwT
    by_cases hend : K + j = L.length
    · have hSn : S = n := by rw [HS2.out]; exact HLA.out _ (by omega)
      have hKC : L.length < K + C := by omega
      have d0 : decide (n ≤ S) = true := decide_eq_true (by omega)
      have d1 : decide ((n : Int) ≤ (S : Int)) = true := decide_eq_true (by omega)
      clear hSn hj0 hjn hjC hb1' hb2' hend
      have cC := fun W (hW : Below w1.heap.size w1 W) => inner_any a n c' ls pl 0 C W (SrcV.below HS.out hW) hs (by omega)
      rw [HNO.out C (by have := HCC.out; omega) hKC] at cC
      clear P0 P1 X0 X1 Xz
      have c_P := P.out
      have P0 := c_P.c0
      have P1 := c_P.c1
      clear c_P
      have c_X := X.out
      have X0 := c_X.c0
      have X1 := c_X.c1
      have Xz := fun k => frozen_of_row _ b_X k _ _ c_X
      clear c_X
      go_wp2_with fail
      refine (cC _ D.out).mono ?_
      rintro e v7 ⟨rfl, hb⟩
      clear P0 P1 X0 X1 Xz
      have D := Lib.hid (below_on D.out hb)
      have E := Lib.hid (below_on E.out hb)
      have P := Lib.hid (P.out.below hb P.out.lt)
      have X := Lib.hid (X.out.below hb X.out.lt)
      clear hb cC
      go_upto_region 23 with fail
      obtain ⟨v8, hv8⟩ : ∃ v8, v8 = v7.alloc (.cells #[.int .i64 0, .int .i64 0, .int .i64 0, .int .i64 0, .int .i64 0] 42) := ⟨_, rfl⟩
      have hA : Below v7.heap.size v7 v8 := by rw [hv8]; exact (Below.refl _ v7).alloc (Nat.le_refl _) _
      have hV := RgAt.new v7 0 0 0 0 0
      rw [← hv8] at hV ⊢
      have lt_P := P.out.lt
      have lt_X := X.out.lt
      have gg_D := D.out.size
      have gg_E := E.out.size
      have D := Lib.hid (below_on D.out hA)
      have E := Lib.hid (below_on E.out hA)
      have P := Lib.hid (P.out.below hA P.out.lt)
      have X := Lib.hid (X.out.below hA X.out.lt)
      obtain ⟨b_R, hbf⟩ : ∃ b, b = v7.heap.size := ⟨_, rfl⟩
      rw [← hbf] at hV ⊢
      have n_P_R := Lib.hid (show b_P ≠ b_R by omega)
      clear lt_P
      have n_X_R := Lib.hid (show b_X ≠ b_R by omega)
      clear lt_X
      have g_R_D := Lib.hid (show w1.heap.size ≤ b_R by rw [hbf]; exact gg_D)
      clear gg_D
      have g_R_E := Lib.hid (show x3.heap.size ≤ b_R by rw [hbf]; exact gg_E)
      clear gg_E
      have R := Lib.hid hV
      clear hV hA hv8 hbf
      have c_P := P.out
      have P0 := c_P.c0
      have P1 := c_P.c1
      clear c_P
      have c_X := X.out
      have X0 := c_X.c0
      have X1 := c_X.c1
      have Xz := fun k => frozen_of_row _ b_X k _ _ c_X
      clear c_X
      have c_R := R.out
      have R0 := c_R.c0
      have R1 := c_R.c1
      have R2 := c_R.c2
      have R3 := c_R.c3
      have R4 := c_R.c4
      clear c_R
      go_wp2
      go_ret
      exact ⟨rfl, below_on HB1.out D.out⟩
    have hst := HST.out (K + j - 1) (by omega)
    rw [show K + j - 1 + 1 = K + j by omega, ← HS2.out] at hst
    have c1 := fun W (hW : Below w1.heap.size w1 W) => inner_any a n c' ls S 0 1 W (SrcV.below HS.out hW) hs (by omega)
    have h1 := HNX.out (K + j) (by omega)
    obtain ⟨g1, g2⟩ := HBD.out (K + j) (by omega)
    rw [hst] at h1 g1
    rw [h1] at c1
    obtain ⟨B, hB⟩ : ∃ B, B = (L.getD (K + j) (0, 0)).2 - 1 := ⟨_, rfl⟩
    rw [← hB] at c1
    have d0 : decide (n ≤ S) = false := decide_eq_false (by omega)
    have d1 : decide ((n : Int) ≤ (S : Int)) = false := decide_eq_false (by omega)
    have d2 : decide (S < S) = false := decide_eq_false (by omega)
    have d4 : decide (B < S) = false := decide_eq_false (by omega)
    have d5 : decide ((B : Int) < (S : Int)) = false := decide_eq_false (by omega)
    have HAB := Lib.hid hB
    have HKJ := Lib.hid (show K + j < L.length by omega)
    clear h1 hst hB g1 g2 hj0 hjC hb1' hb2' hend hKj
    clear P0 P1 X0 X1 Xz
    have c_P := P.out
    have P0 := c_P.c0
    have P1 := c_P.c1
    clear c_P
    have c_X := X.out
    have X0 := c_X.c0
    have X1 := c_X.c1
    have Xz := fun k => frozen_of_row _ b_X k _ _ c_X
    clear c_X
    go_wp2_with fail
    refine (c1 _ D.out).mono ?_
    rintro e v3 ⟨rfl, hb⟩
    clear P0 P1 X0 X1 Xz
    have D := Lib.hid (below_on D.out hb)
    have E := Lib.hid (below_on E.out hb)
    have P := Lib.hid (P.out.below hb P.out.lt)
    have X := Lib.hid (X.out.below hb X.out.lt)
    clear hb c1
    have c_P := P.out
    have P0 := c_P.c0
    have P1 := c_P.c1
    clear c_P
    have c_X := X.out
    have X0 := c_X.c0
    have X1 := c_X.c1
    have Xz := fun k => frozen_of_row _ b_X k _ _ c_X
    clear c_X
    go_upto_region 17 with fail
    obtain ⟨y4, hy4⟩ : ∃ y4, y4 = v3.alloc (.cells #[.int .i64 1, .int .i64 S, .int .i64 0, .int .i64 B, .int .i64 0] 42) := ⟨_, rfl⟩
    have hA : Below v3.heap.size v3 y4 := by rw [hy4]; exact (Below.refl _ v3).alloc (Nat.le_refl _) _
    have hV := RgAt.new v3 1 S 0 B 0
    rw [← hy4] at hV ⊢
    have lt_P := P.out.lt
    have lt_X := X.out.lt
    have gg_D := D.out.size
    have gg_E := E.out.size
    have D := Lib.hid (below_on D.out hA)
    have E := Lib.hid (below_on E.out hA)
    have P := Lib.hid (P.out.below hA P.out.lt)
    have X := Lib.hid (X.out.below hA X.out.lt)
    obtain ⟨b_V, hbf⟩ : ∃ b, b = v3.heap.size := ⟨_, rfl⟩
    rw [← hbf] at hV ⊢
    have n_P_V := Lib.hid (show b_P ≠ b_V by omega)
    clear lt_P
    have n_X_V := Lib.hid (show b_X ≠ b_V by omega)
    clear lt_X
    have g_V_D := Lib.hid (show w1.heap.size ≤ b_V by rw [hbf]; exact gg_D)
    clear gg_D
    have g_V_E := Lib.hid (show x3.heap.size ≤ b_V by rw [hbf]; exact gg_E)
    clear gg_E
    have V := Lib.hid hV
    clear hV hA hy4 hbf
    clear P0 P1 X0 X1 Xz
    have c_P := P.out
    have P0 := c_P.c0
    have P1 := c_P.c1
    clear c_P
    have c_X := X.out
    have X0 := c_X.c0
    have X1 := c_X.c1
    have Xz := fun k => frozen_of_row _ b_X k _ _ c_X
    clear c_X
    have c_V := V.out
    have V0 := c_V.c0
    have V1 := c_V.c1
    have V2 := c_V.c2
    have V3 := c_V.c3
    have V4 := c_V.c4
    clear c_V
    go_wp2
    go_roundw
    case rel => exact ⟨M, F, B, rfl, rfl, rfl, rfl, by have := HM.out; omega, fun _ => ⟨by have := HM.out; have := HKJ.out; omega, HFT.out.1, by rw [HAB.out, show K + M - 1 = K + j by have := HM.out; omega]⟩, E.out⟩
    case measure => have := HM.out; simp [RowKit.intOf]; omega
end Go.Proofs.Ytnngcminomooeaa.XCo
