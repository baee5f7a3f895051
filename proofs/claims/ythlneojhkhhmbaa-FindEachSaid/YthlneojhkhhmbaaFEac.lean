/-
  The law FindEach, walked.
-/
import Derived.Test.YthlneojhkhhmbaaFn
import Derived.Test.YthlneojhkhhmbaaMo
import Derived.Test.YthlneojhkhhmbaaFa
import Derived.Test.YthlneojhkhhmbaaFi
set_option linter.unusedVariables false
set_option linter.unusedSimpArgs false
set_option maxRecDepth 100000
namespace Go.Proofs.Ythlneojhkhhmbaa.FEac
open Go Go.RowKit Go.Proofs.Ythlneojhkhhmbaa.Vk Go.Proofs.Ythlneojhkhhmbaa.Str Go.Proofs.Ythlneojhkhhmbaa.Ln Go.Proofs.Ythlneojhkhhmbaa.Cl Go.Proofs.Ythlneojhkhhmbaa.Mv Go.Proofs.Ythlneojhkhhmbaa.Wd Go.Proofs.Ythlneojhkhhmbaa.Fd
attribute [local go_sem] Oper.semAt_some
set_option maxHeartbeats 8000000

/-- Where a search leads. -/
abbrev hit (x : P2) : R := ⟨x.1, x.2, 0, true, -1, true⟩
theorem plc_mem {pt : ByteArray} {ls : List ByteArray} {x : P2} (h : x ∈ pls pt ls) : Plc ls (x.1 : Int) (x.2 : Int) := by
  obtain ⟨h1, h2, _⟩ := pls_mem h
  exact ⟨by omega, by omega, by omega, by rw [Int.toNat_natCast]; omega⟩
theorem sr_hit {pt : ByteArray} {ls : List ByteArray} {k n : Nat} {back : Bool} (hk : k < (pls pt ls).length) (hn : 1 ≤ n) (hn2 : n ≤ 1073741824) : srR pt ls ((pls pt ls).getD k (0, 0)).1 ((pls pt ls).getD k (0, 0)).2 n back = hit ((pls pt ls).getD (trn (if back = true then k else k + 1) (pls pt ls).length n back) (0, 0)) := by
  have hm : (pls pt ls).getD k (0, 0) ∈ pls pt ls := by
    rw [List.getD_eq_getElem?_getD, List.getElem?_eq_getElem hk]; exact List.getElem_mem _
  obtain ⟨f1, f2⟩ := fr0_at (pls_sorted pt ls) hk
  unfold srR
  rw [ifm_yes (plc_mem hm) hn, srL_yes (by omega), jmp_yes, show min n 1073741824 = n by omega]
  cases back
  · rw [if_neg (by simp), ← f1]
  · rw [if_pos rfl]
    conv => rhs; rw [← f2]
theorem sr_none {pt : ByteArray} {ls : List ByteArray} (h : (pls pt ls).length = 0) (l c n : Int) (back : Bool) : srR pt ls l c n back = R.no := by
  unfold srR ifm
  split
  · show jmp (srL (pls pt ls) _ back _) = R.no
    rw [srL_no h]; rfl
  · rfl
theorem trn_fwd {Q N I : Nat} (hI : 1 ≤ I) : trn (Q + 1) N I false = (Q + I) % N := by
  unfold trn
  rw [if_neg (by simp), Nat.add_mod_mod, show Q + 1 + (I - 1) = Q + I by omega]
theorem trn_bwd {Q N I : Nat} (hI : 1 ≤ I) (hQ : Q < N) : ((trn Q N I true : Nat) : Int) = ((Q : Int) - (I : Int)) % (N : Int) := by
  unfold trn
  rw [if_pos rfl]
  have hs := Nat.mod_lt (I - 1) (show 0 < N by omega)
  have hd := Nat.div_add_mod (I - 1) N
  generalize (I - 1) % N = s at *
  generalize (I - 1) / N = d at *
  rw [Int.natCast_emod]
  have e : ((Q : Int) - (I : Int)) = ((Q + N - 1 - s : Nat) : Int) + (N : Int) * (-(d : Int) - 1) := by
    have h1 : (I : Int) = (N : Int) * (d : Int) + (s : Int) + 1 := by
      have := congrArg (fun x : Nat => (x : Int)) hd
      simp only [Int.natCast_add, Int.natCast_mul] at this
      omega
    have h2 : ((Q + N - 1 - s : Nat) : Int) = (Q : Int) + (N : Int) - 1 - (s : Int) := by omega
    rw [h1, h2, Int.mul_sub, Int.mul_neg, Int.mul_one]
    omega
  rw [e, Int.add_mul_emod_self_left]
theorem place_any (D : Int) (N F : Nat) (w : World) (h0 : 0 < N) (hN : N ≤ 1000000) (hF : (F : Int) = D % (N : Int)) :
    Calls Try.prog 21 #[.int .i64 D, .int .i64 N] w fun e w' => e = .returned (.int .i64 F) ∧ w = w' := by
  have h1 := Int.tmod_lt_of_pos D (b := (N : Int)) (by omega)
  have h2 := Int.lt_tmod_of_pos D (b := (N : Int)) (by omega)
  have h3 := Int.emod_nonneg D (b := (N : Int)) (by omega)
  have h4 := Int.emod_lt_of_pos D (b := (N : Int)) (by omega)
  have h5 := Int.tmod_eq_emod (a := D) (b := (N : Int))
  have h6 : D.tmod (N : Int) = (F : Int) ∨ D.tmod (N : Int) = (F : Int) - (N : Int) := by
    split at h5
    · exact .inl (by omega)
    · exact .inr (by omega)
  have hz : ((N : Int) == 0) = false := by rw [beq_eq_false_iff_ne]; omega
  have hz2 : ¬ N = 0 := by omega
  rw [← hF] at h3 h4
  obtain ⟨T, hT⟩ : ∃ T, D.tmod (N : Int) = T := ⟨_, rfl⟩
  rw [hT] at h1 h2 h6
  have hwT : IntKind.i64.wrap T = T := by rw [IntKind.wrap_i64]; omega
  clear hF h5
  by_cases hn : T < 0
  · have hw : IntKind.i64.wrap (T + (N : Int)) = (F : Int) := by rw [IntKind.wrap_i64]; omega
    have d0 : decide (T < 0) = true := decide_eq_true hn
    clear h1 h2 h3 h4 h6 h0 hN hn
    go_enter Try.func21, Try.ntmps21
    go_wp2
    go_ret
    exact ⟨rfl, rfl⟩
  · obtain rfl : T = (F : Int) := by omega
    have d0 : decide ((F : Int) < 0) = false := decide_eq_false (by omega)
    clear h1 h2 h3 h4 h6 h0 hN hn
    go_enter Try.func21, Try.ntmps21
    go_wp2
    go_ret
    exact ⟨rfl, rfl⟩
theorem ne_pos' (a b : Nat) (W : World) : (binOp .neq 27 (.agg #[.int .i64 a, .int .i64 b]) (.agg #[.int .i64 a, .int .i64 b])).run Try.prog W = .ok (.bool false) W := ne_pos a b W

theorem all5_n (a : Option Addr) (n c : Nat) (ls : List ByteArray) (pt : ByteArray) (w : World) (h : Ss w a n c ls) (hs : ∀ s ∈ ls, s.size ≤ 140737488355328) (hp : pt.size ≤ 140737488355328) (htz : tz ls ≤ 900000) :
    Calls Try.prog 14 #[.slice a n c, .string pt] w fun e w' => ∃ b N cc, e = .returned (.slice b N cc) ∧ Ps w' b N cc (pls pt ls) ∧ Below w.heap.size w w' :=
  (all5_any a n c ls pt w h hs hp htz).mono fun e w' ⟨b, cc, h1, h2, h3⟩ => ⟨b, _, cc, h1, h2, h3⟩
theorem walk (a : Option Addr) (n c' : Nat) (ls : List ByteArray) (pt : ByteArray) (q : Int) (back : Bool) (w : World) (h : Ss w a n c' ls) (hs : ∀ s ∈ ls, s.size ≤ 140737488355328) (hp0 : pt.size ≤ 140737488355328) (hq0 : (Lit.int .u8 q).wf = true) :
    Calls Try.prog 7 #[.slice a n c', .string pt, .int .u8 q, .bool back] w fun e w' => e = .returned (.bool true) ∧ Below w.heap.size w w' := by
  have hk := known_any w
  have q2 : 0 ≤ q ∧ q ≤ 255 := by simpa [Lit.wf, IntKind.min, IntKind.max, IntKind.signed, IntKind.bits] using hq0
  have hwq : IntKind.i64.wrap q = q := by rw [IntKind.wrap_i64]; omega
  go_enter Try.func7, Try.ntmps7
  go_wp2_with fail
  refine hk.mono ?_
  rintro e w1 ⟨rfl, hb1⟩
  have hs1 := SrcV.below h hb1
  have HB1 := Lib.hid hb1
  have htx := text_any a n c' ls w1 hs1 hs
  have HS1 := Lib.hid hs1
  clear hk hb1 h hs1
  go_wp2_with fail
  refine htx.mono ?_
  rintro e w' ⟨qq, rfl, rfl, hq⟩
  clear htx
  cases qq
  · clear hq
    go_wp2
    go_ret
    exact ⟨rfl, HB1.out⟩
  obtain ⟨hn0, hn40, hz, _⟩ := hq rfl
  clear hq
  by_cases h60 : 20 < pt.size
  · have d0 : decide (20 < pt.size) = true := decide_eq_true h60
    have d1 : decide ((20 : Int) < (pt.size : Int)) = true := decide_eq_true (by omega)
    clear h60
    go_wp2
    go_ret
    exact ⟨rfl, HB1.out⟩
  have d0 : decide (20 < pt.size) = false := decide_eq_false h60
  have d1 : decide ((20 : Int) < (pt.size : Int)) = false := decide_eq_false (by omega)
  have hptz : pt.size ≤ 20 := by omega
  clear h60
  have hdo := all5_n _ n c' ls pt w1 HS1.out hs (by omega) (by omega)
  go_wp2_with fail
  refine hdo.mono ?_
  rintro e v1 ⟨bW, N, cW, rfl, hp, hb⟩
  have D := Lib.hid hb
  have hlN := hp.length
  have lS : (pls pt ls).length ≤ 1240 := Nat.le_trans (pls_tz _ _) hz
  have hcs := fun W (hW : Below w1.heap.size w1 W) (px py kk : Int) => search_any _ n c' ls px py pt back kk W (SrcV.below HS1.out hW) hs (by omega) (by omega)
  have HCS := Lib.hid hcs
  have PW := Lib.hid hp
  have TW := Lib.hid (Below.refl v1.heap.size v1)
  clear hdo hb d0 d1 hp hcs
  by_cases hN0 : N = 0
  · have c1 := HCS.out v1 D.out 0 0 1
    rw [sr_none (by omega)] at c1
    dsimp only [R.no, R.v] at c1
    have hNz : ((N : Int) == 0) = true := by rw [beq_iff_eq]; omega
    clear hlN lS
    subst hN0
    clear hNz
    go_wp2_with fail
    refine (c1).mono ?_
    rintro e v2 ⟨rfl, hb⟩
    have D := Lib.hid (below_on D.out hb)
    have TW := Lib.hid (below_on TW.out hb)
    clear hb c1
    go_upto_region 8 with fail
    obtain ⟨y1, hy1⟩ : ∃ y1, y1 = v2.alloc (.cells #[.int .i64 0, .int .i64 0, .int .i64 0, .bool false, .int .i64 0] 40) := ⟨_, rfl⟩
    have hA : Below v2.heap.size v2 y1 := by rw [hy1]; exact (Below.refl _ v2).alloc (Nat.le_refl _) _
    have hV := MvAt.new v2 0 0 0 0 false
    rw [← hy1] at hV ⊢
    have gg_D := D.out.size
    have gg_TW := TW.out.size
    have D := Lib.hid (below_on D.out hA)
    have TW := Lib.hid (below_on TW.out hA)
    obtain ⟨b_A, hbf⟩ : ∃ b, b = v2.heap.size := ⟨_, rfl⟩
    rw [← hbf] at hV ⊢
    have g_A_D := Lib.hid (show w1.heap.size ≤ b_A by rw [hbf]; exact gg_D)
    clear gg_D
    have g_A_TW := Lib.hid (show v1.heap.size ≤ b_A by rw [hbf]; exact gg_TW)
    clear gg_TW
    have A := Lib.hid hV
    clear hV hA hy1 hbf
    have c_A := A.out
    have A0 := c_A.c0
    have A1 := c_A.c1
    have A2 := c_A.c2
    have A3 := c_A.c3
    have A4 := c_A.c4
    clear c_A
    go_wp2
    go_ret
    exact ⟨rfl, below_on HB1.out D.out⟩
  have hNz : ((N : Int) == 0) = false := by rw [beq_eq_false_iff_ne]; omega
  have hNz2 : ¬ N = 0 := hN0
  obtain ⟨Q, hQ, hQl⟩ : ∃ Q : Nat, q % (N : Int) = (Q : Int) ∧ Q < N := by
    have h1 := Int.emod_nonneg q (b := (N : Int)) (by omega)
    have h2 := Int.emod_lt_of_pos q (b := (N : Int)) (by omega)
    exact ⟨(q % (N : Int)).toNat, by omega, by omega⟩
  have hQt : q.tmod (N : Int) = (Q : Int) := by rw [Int.tmod_eq_emod_of_nonneg q2.1]; exact hQ
  obtain ⟨bb, oo, rfl, z0, z1, hnc⟩ := PW.out.read Q (by omega)
  obtain ⟨p, hp⟩ : ∃ p : P2, p = (pls pt ls)[Q]'(by omega) := ⟨_, rfl⟩
  rw [← hp] at z0 z1
  have hgp : (pls pt ls).getD Q (0, 0) = p := by rw [List.getD_eq_getElem?_getD, List.getElem?_eq_getElem (by omega), hp]; rfl
  have HGP := Lib.hid hgp
  have HLN := Lib.hid (And.intro hlN (And.intro lS hN0))
  obtain ⟨N2, hN2⟩ : ∃ N2, N2 = N + 2 := ⟨_, rfl⟩
  have hwN : IntKind.i64.wrap ((N : Int) + 2) = (N2 : Int) := by rw [IntKind.wrap_i64]; omega
  have HN2 := Lib.hid hN2
  clear hp hgp hlN lS hN0 hN2
  go_upto_region 10 with fail
  obtain ⟨x2, hx2⟩ : ∃ x2, x2 = v1.alloc (.cells #[.int .i64 (p.1 : Int), .int .i64 (p.2 : Int)] 27) := ⟨_, rfl⟩
  have hA : Below v1.heap.size v1 x2 := by rw [hx2]; exact (Below.refl _ v1).alloc (Nat.le_refl _) _
  have hV := PosAt.new v1 (p.1 : Int) (p.2 : Int)
  rw [← hx2] at hV ⊢
  have gg_D := D.out.size
  have gg_TW := TW.out.size
  have D := Lib.hid (below_on D.out hA)
  have TW := Lib.hid (below_on TW.out hA)
  obtain ⟨b_P, hbf⟩ : ∃ b, b = v1.heap.size := ⟨_, rfl⟩
  rw [← hbf] at hV ⊢
  have g_P_D := Lib.hid (show w1.heap.size ≤ b_P by rw [hbf]; exact gg_D)
  clear gg_D
  have g_P_TW := Lib.hid (show v1.heap.size ≤ b_P by rw [hbf]; exact gg_TW)
  clear gg_TW
  have P := Lib.hid hV
  clear hV hA hx2 hbf
  have c_P := P.out
  have P0 := c_P.c0
  have P1 := c_P.c1
  clear c_P
  clear z0 z1
  clear P0 P1
  go_wp2
  cases back
  · go_loopw [13] (fun i wr => ∃ I : Nat, 1 ≤ I ∧ I ≤ N2 + 1 ∧ i = .int .i64 I ∧ Hid (Below x2.heap.size x2 wr)) (fun i _ => N2 + 1 - (RowKit.intOf i).toNat)
    case atStart => exact ⟨1, Nat.le_refl _, by omega, rfl, Below.refl _ _⟩
    case round =>
      obtain ⟨I, hI1, hI2, rfl, E⟩ := hrel
      by_cases hI : I ≤ N2
      rotate_left
      · have dI : decide (I ≤ N2) = false := decide_eq_false hI
        have dI2 : decide ((I : Int) ≤ (N2 : Int)) = false := decide_eq_false (by omega)
        go_wp2
        go_ret
        exact ⟨rfl, below_on HB1.out (below_on D.out E.out)⟩
      obtain ⟨hlN, lS, hN0⟩ := HLN.out
      have hN2 := HN2.out
      obtain ⟨S, hS⟩ : ∃ S, S = Q + I := ⟨_, rfl⟩
      have hwS : IntKind.i64.wrap ((Q : Int) + (I : Int)) = (S : Int) := by rw [IntKind.wrap_i64]; omega
      obtain ⟨F0, hF0⟩ : ∃ F, F = S % N := ⟨_, rfl⟩
      have hm1 : (S : Int) % (N : Int) = (F0 : Int) := by rw [hF0]; omega
      have hm2 : (S : Int).tmod (N : Int) = (F0 : Int) := by rw [Int.tmod_eq_emod_of_nonneg (by omega)]; exact hm1
      obtain ⟨F, hF⟩ : ∃ F, F = F0 := ⟨_, rfl⟩
      have htr : trn (Q + 1) N I false = F := by rw [trn_fwd hI1, hF, hF0, hS]
      subst hF
      have hsr := sr_hit (pt := pt) (ls := ls) (k := Q) (n := I) (back := false) (by omega) hI1 (by omega)
      rw [if_neg (by simp), hlN, htr, HGP.out] at hsr
      have hFl : F < N := by rw [hF0]; exact Nat.mod_lt _ (by omega)
      obtain ⟨y, hy⟩ : ∃ y : P2, y = (pls pt ls)[F]'(by omega) := ⟨_, rfl⟩
      have hgy : (pls pt ls).getD F (0, 0) = y := by rw [List.getD_eq_getElem?_getD, List.getElem?_eq_getElem (by omega), hy]; rfl
      rw [hgy] at hsr
      have c1 := HCS.out wr (below_on D.out E.out) p.1 p.2 I
      rw [hsr] at c1
      have hne := fun W => ne_pos' y.1 y.2 W
      have HY := Lib.hid hgy
      have P := Lib.hid (P.out.below E.out P.out.lt)
      have TW := Lib.hid (below_on TW.out E.out)
      have dI : decide (I ≤ N2) = true := decide_eq_true hI
      have dI2 : decide ((I : Int) ≤ (N2 : Int)) = true := decide_eq_true (by omega)
      have HI := Lib.hid (And.intro hI (And.intro hI1 hI2))
      have hIb : I ≤ 100000 := by omega
      have HFL := Lib.hid hFl
      clear hy hgy hsr hF0 hS hlN lS hN0 hN2 htr
      have c_P := P.out
      have P0 := c_P.c0
      have P1 := c_P.c1
      clear c_P
      go_wp2_with fail
      refine (c1).mono ?_
      rintro e v2 ⟨rfl, hb⟩
      clear P0 P1
      have E := Lib.hid (below_on E.out hb)
      have TW := Lib.hid (below_on TW.out hb)
      have P := Lib.hid (P.out.below hb P.out.lt)
      clear hb c1
      go_upto_region 17 with fail
      obtain ⟨y1, hy1⟩ : ∃ y1, y1 = v2.alloc (.cells #[.int .i64 (y.1 : Int), .int .i64 (y.2 : Int), .int .i64 0, .bool true, .int .i64 (-1)] 40) := ⟨_, rfl⟩
      have hA : Below v2.heap.size v2 y1 := by rw [hy1]; exact (Below.refl _ v2).alloc (Nat.le_refl _) _
      have hV := MvAt.new v2 (y.1 : Int) (y.2 : Int) 0 (-1) true
      rw [← hy1] at hV ⊢
      have lt_P := P.out.lt
      have gg_E := E.out.size
      have gg_TW := TW.out.size
      have E := Lib.hid (below_on E.out hA)
      have TW := Lib.hid (below_on TW.out hA)
      have P := Lib.hid (P.out.below hA P.out.lt)
      obtain ⟨b_M, hbf⟩ : ∃ b, b = v2.heap.size := ⟨_, rfl⟩
      rw [← hbf] at hV ⊢
      have n_P_M := Lib.hid (show b_P ≠ b_M by omega)
      clear lt_P
      have g_M_E := Lib.hid (show x2.heap.size ≤ b_M by rw [hbf]; exact gg_E)
      clear gg_E
      have g_M_TW := Lib.hid (show v1.heap.size ≤ b_M by rw [hbf]; exact gg_TW)
      clear gg_TW
      have M := Lib.hid hV
      clear hV hA hy1 hbf
      have c_P := P.out
      have P0 := c_P.c0
      have P1 := c_P.c1
      clear c_P
      have c_M := M.out
      have M0 := c_M.c0
      have M1 := c_M.c1
      have M2 := c_M.c2
      have M3 := c_M.c3
      have M4 := c_M.c4
      clear c_M
      have hpy := PW.out.below TW.out
      obtain ⟨bx, ox, e, z0, z1, _⟩ := hpy.read F (by have := HLN.out.1; have := HFL.out; omega)
      obtain ⟨rfl, rfl⟩ : bb = bx ∧ oo = ox := by injection e with e; injection e with e1 e2; exact ⟨e1, e2⟩
      have hgy : (pls pt ls)[F]'(by have := HLN.out.1; have := HFL.out; omega) = y := by
        have := HY.out
        rw [List.getD_eq_getElem?_getD, List.getElem?_eq_getElem (by have := HLN.out.1; have := HFL.out; omega)] at this
        exact this
      rw [hgy] at z0 z1
      have f0 := fun z : Gr y1 => z.cell z0
      have f1 := fun z : Gr y1 => z.cell z1
      have f2 := fun z : Gr y1 => z.cell M0
      have f3 := fun z : Gr y1 => z.cell M1
      have f5 := fun z : Gr y1 => z.cell M3
      have hFl := HFL.out
      have hFl2 : (F : Int) < (N : Int) := by omega
      clear hpy e z0 z1 hgy
      clear P0 P1 M0 M1 M2 M3 M4
      refine wp_region_grow (by kernel_rfl) (by kernel_rfl) ?_
      repeat (go_big_quiet_step (fail))
      refine wpQuiet_nil ?_
      rintro V9 ⟨⟨_, hb9⟩, rfl⟩
      have E := Lib.hid (below_on E.out hb9)
      clear f0 f1 f2 f3 f5 hb9
      go_wp2
      go_roundw
      case rel => exact ⟨I + 1, by omega, by have := HI.out.1; omega, by go_num, E⟩
      case measure => have := HI.out.1; simp [RowKit.intOf]; omega
  · go_loopw [13] (fun i wr => ∃ I : Nat, 1 ≤ I ∧ I ≤ N2 + 1 ∧ i = .int .i64 I ∧ Hid (Below x2.heap.size x2 wr)) (fun i _ => N2 + 1 - (RowKit.intOf i).toNat)
    case atStart => exact ⟨1, Nat.le_refl _, by omega, rfl, Below.refl _ _⟩
    case round =>
      obtain ⟨I, hI1, hI2, rfl, E⟩ := hrel
      by_cases hI : I ≤ N2
      rotate_left
      · have dI : decide (I ≤ N2) = false := decide_eq_false hI
        have dI2 : decide ((I : Int) ≤ (N2 : Int)) = false := decide_eq_false (by omega)
        go_wp2
        go_ret
        exact ⟨rfl, below_on HB1.out (below_on D.out E.out)⟩
      obtain ⟨hlN, lS, hN0⟩ := HLN.out
      have hN2 := HN2.out
      obtain ⟨S, hS⟩ : ∃ S, S = Q + I := ⟨_, rfl⟩
      have hwS : IntKind.i64.wrap ((Q : Int) + (I : Int)) = (S : Int) := by rw [IntKind.wrap_i64]; omega
      obtain ⟨F0, hF0⟩ : ∃ F, F = S % N := ⟨_, rfl⟩
      have hm1 : (S : Int) % (N : Int) = (F0 : Int) := by rw [hF0]; omega
      have hm2 : (S : Int).tmod (N : Int) = (F0 : Int) := by rw [Int.tmod_eq_emod_of_nonneg (by omega)]; exact hm1
      obtain ⟨F, hF⟩ : ∃ F, F = trn Q N I true := ⟨_, rfl⟩
      have hFi := trn_bwd (N := N) hI1 hQl
      rw [← hF] at hFi
      have hsr := sr_hit (pt := pt) (ls := ls) (k := Q) (n := I) (back := true) (by omega) hI1 (by omega)
      rw [if_pos rfl, hlN, ← hF, HGP.out] at hsr
      have hFl : F < N := by rw [hF]; exact trn_lt (by omega)
      obtain ⟨Dd, hDd⟩ : ∃ Dd : Int, Dd = (Q : Int) - (I : Int) := ⟨_, rfl⟩
      rw [← hDd] at hFi
      have hwD : IntKind.i64.wrap ((Q : Int) - (I : Int)) = Dd := by rw [IntKind.wrap_i64]; omega
      have hpc := fun W => place_any Dd N F W (by omega) (by omega) hFi
      clear hF hFi hDd
      obtain ⟨y, hy⟩ : ∃ y : P2, y = (pls pt ls)[F]'(by omega) := ⟨_, rfl⟩
      have hgy : (pls pt ls).getD F (0, 0) = y := by rw [List.getD_eq_getElem?_getD, List.getElem?_eq_getElem (by omega), hy]; rfl
      rw [hgy] at hsr
      have c1 := HCS.out wr (below_on D.out E.out) p.1 p.2 I
      rw [hsr] at c1
      have hne := fun W => ne_pos' y.1 y.2 W
      have HY := Lib.hid hgy
      have P := Lib.hid (P.out.below E.out P.out.lt)
      have TW := Lib.hid (below_on TW.out E.out)
      have dI : decide (I ≤ N2) = true := decide_eq_true hI
      have dI2 : decide ((I : Int) ≤ (N2 : Int)) = true := decide_eq_true (by omega)
      have HI := Lib.hid (And.intro hI (And.intro hI1 hI2))
      have hIb : I ≤ 100000 := by omega
      have HFL := Lib.hid hFl
      clear hy hgy hsr hF0 hS hlN lS hN0 hN2
      have c_P := P.out
      have P0 := c_P.c0
      have P1 := c_P.c1
      clear c_P
      go_wp2_with fail
      refine (hpc _).mono ?_
      rintro e w' ⟨rfl, rfl⟩
      clear hpc
      go_wp2_with fail
      refine (c1).mono ?_
      rintro e v2 ⟨rfl, hb⟩
      clear P0 P1
      have E := Lib.hid (below_on E.out hb)
      have TW := Lib.hid (below_on TW.out hb)
      have P := Lib.hid (P.out.below hb P.out.lt)
      clear hb c1
      go_upto_region 17 with fail
      obtain ⟨y1, hy1⟩ : ∃ y1, y1 = v2.alloc (.cells #[.int .i64 (y.1 : Int), .int .i64 (y.2 : Int), .int .i64 0, .bool true, .int .i64 (-1)] 40) := ⟨_, rfl⟩
      have hA : Below v2.heap.size v2 y1 := by rw [hy1]; exact (Below.refl _ v2).alloc (Nat.le_refl _) _
      have hV := MvAt.new v2 (y.1 : Int) (y.2 : Int) 0 (-1) true
      rw [← hy1] at hV ⊢
      have lt_P := P.out.lt
      have gg_E := E.out.size
      have gg_TW := TW.out.size
      have E := Lib.hid (below_on E.out hA)
      have TW := Lib.hid (below_on TW.out hA)
      have P := Lib.hid (P.out.below hA P.out.lt)
      obtain ⟨b_M, hbf⟩ : ∃ b, b = v2.heap.size := ⟨_, rfl⟩
      rw [← hbf] at hV ⊢
      have n_P_M := Lib.hid (show b_P ≠ b_M by omega)
      clear lt_P
      have g_M_E := Lib.hid (show x2.heap.size ≤ b_M by rw [hbf]; exact gg_E)
      clear gg_E
      have g_M_TW := Lib.hid (show v1.heap.size ≤ b_M by rw [hbf]; exact gg_TW)
      clear gg_TW
      have M := Lib.hid hV
      clear hV hA hy1 hbf
      have c_P := P.out
      have P0 := c_P.c0
      have P1 := c_P.c1
      clear c_P
      have c_M := M.out
      have M0 := c_M.c0
      have M1 := c_M.c1
      have M2 := c_M.c2
      have M3 := c_M.c3
      have M4 := c_M.c4
      clear c_M
      have hpy := PW.out.below TW.out
      obtain ⟨bx, ox, e, z0, z1, _⟩ := hpy.read F (by have := HLN.out.1; have := HFL.out; omega)
      obtain ⟨rfl, rfl⟩ : bb = bx ∧ oo = ox := by injection e with e; injection e with e1 e2; exact ⟨e1, e2⟩
      have hgy : (pls pt ls)[F]'(by have := HLN.out.1; have := HFL.out; omega) = y := by
        have := HY.out
        rw [List.getD_eq_getElem?_getD, List.getElem?_eq_getElem (by have := HLN.out.1; have := HFL.out; omega)] at this
        exact this
      rw [hgy] at z0 z1
      have f0 := fun z : Gr y1 => z.cell z0
      have f1 := fun z : Gr y1 => z.cell z1
      have f2 := fun z : Gr y1 => z.cell M0
      have f3 := fun z : Gr y1 => z.cell M1
      have f5 := fun z : Gr y1 => z.cell M3
      have hFl := HFL.out
      have hFl2 : (F : Int) < (N : Int) := by omega
      clear hpy e z0 z1 hgy
      clear P0 P1 M0 M1 M2 M3 M4
      refine wp_region_grow (by kernel_rfl) (by kernel_rfl) ?_
      repeat (go_big_quiet_step (fail))
      refine wpQuiet_nil ?_
      rintro V9 ⟨⟨_, hb9⟩, rfl⟩
      have E := Lib.hid (below_on E.out hb9)
      clear f0 f1 f2 f3 f5 hb9
      go_wp2
      go_roundw
      case rel => exact ⟨I + 1, by omega, by have := HI.out.1; omega, by go_num, E⟩
      case measure => have := HI.out.1; simp [RowKit.intOf]; omega
end Go.Proofs.Ythlneojhkhhmbaa.FEac
