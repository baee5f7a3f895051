/-
  The law FindRound, walked.
-/
import Derived.Test.YthlneojhkhhmbaaFn
import Derived.Test.YthlneojhkhhmbaaMo
import Derived.Test.YthlneojhkhhmbaaFa
import Derived.Test.YthlneojhkhhmbaaFi
set_option linter.unusedVariables false
set_option linter.unusedSimpArgs false
set_option maxRecDepth 100000
namespace Go.Proofs.Ythlneojhkhhmbaa.FRou
open Go Go.RowKit Go.Proofs.Ythlneojhkhhmbaa.Vk Go.Proofs.Ythlneojhkhhmbaa.Str Go.Proofs.Ythlneojhkhhmbaa.Ln Go.Proofs.Ythlneojhkhhmbaa.Cl Go.Proofs.Ythlneojhkhhmbaa.Mv Go.Proofs.Ythlneojhkhhmbaa.Wd Go.Proofs.Ythlneojhkhhmbaa.Fd
attribute [local go_sem] Oper.semAt_some
set_option maxHeartbeats 8000000

/-- Where a search leads. -/
abbrev hit (x : P2) : R := ⟨x.1, x.2, 0, true, -1, true⟩
theorem plc_mem {pt : ByteArray} {ls : List ByteArray} {x : P2} (h : x ∈ pls pt ls) : Plc ls (x.1 : Int) (x.2 : Int) := by
  obtain ⟨h1, h2, _⟩ := pls_mem h
  exact ⟨by omega, by omega, by omega, by rw [Int.toNat_natCast]; omega⟩
theorem sr_hit {pt : ByteArray} {ls : List ByteArray} {k n : Nat} {back : Bool} (hk : k < (pls pt ls).length) (hn : 1 ≤ n) (hn2 : n ≤ 1073741824) : srR pt ls ((pls pt ls).getD k (0, 0)).1 ((pls pt ls).getD k (0, 0)).2 n back = hit ((pls pt ls).getD (trn (if back = true then k else k + 1) (pls pt ls).length n back) (0, 0)) := by
  have hm : (pls pt ls).getD k (0, 0) ∈ pls pt ls := by
    rw [List.getD_eq_getElem?_getD, List.getElem?_eq_getElem hk]; exact List.getElem_mem _
  obtain ⟨f1, f2⟩ := fr0_at (pls_sorted pt ls) hk
  unfold srR
  rw [ifm_yes (plc_mem hm) hn, srL_yes (by omega), jmp_yes, show min n 1073741824 = n by omega]
  cases back
  · rw [if_neg (by simp), ← f1]
  · rw [if_pos rfl]
    conv => rhs; rw [← f2]
theorem trn_back {k L : Nat} (hk : k < L) : trn (trn (k + 1) L 1 false) L 1 true = k := by
  unfold trn
  rw [if_pos rfl, if_neg (by simp)]
  have z : (1 - 1) % L = 0 := by simp
  rw [z, Nat.sub_zero, Nat.add_zero]
  by_cases h : k + 1 < L
  · rw [Nat.mod_eq_of_lt h, show k + 1 + L - 1 = k + L by omega, Nat.add_mod_right, Nat.mod_eq_of_lt hk]
  · rw [show k + 1 = L by omega, Nat.mod_self, Nat.zero_add, Nat.mod_eq_of_lt (by omega)]; omega
theorem round_trip {pt : ByteArray} {ls : List ByteArray} {p : P2} (hp : p ∈ pls pt ls) (hl : (pls pt ls).length ≤ 1000000) : ∃ v : P2, srR pt ls p.1 p.2 ((pls pt ls).length : Nat) false = hit p ∧ srR pt ls p.1 p.2 1 false = hit v ∧ srR pt ls v.1 v.2 1 true = hit p := by
  obtain ⟨k, hk, he⟩ := List.getElem_of_mem hp
  have hg : (pls pt ls).getD k (0, 0) = p := by rw [List.getD_eq_getElem?_getD, List.getElem?_eq_getElem hk]; exact he
  have e1 := sr_hit (n := (pls pt ls).length) (back := false) hk (by omega) (by omega)
  have e2 := sr_hit (n := 1) (back := false) hk (by omega) (by omega)
  rw [hg, if_neg (by simp)] at e1 e2
  have t1 : trn (k + 1) (pls pt ls).length (pls pt ls).length false = k := by
    unfold trn
    rw [if_neg (by simp), Nat.mod_eq_of_lt (show (pls pt ls).length - 1 < (pls pt ls).length by omega), show k + 1 + ((pls pt ls).length - 1) = k + (pls pt ls).length by omega, Nat.add_mod_right, Nat.mod_eq_of_lt hk]
  rw [t1, hg] at e1
  obtain ⟨j, hj⟩ : ∃ j, j = trn (k + 1) (pls pt ls).length 1 false := ⟨_, rfl⟩
  have hjl : j < (pls pt ls).length := by rw [hj]; exact trn_lt (by omega)
  have e3 := sr_hit (n := 1) (back := true) hjl (by omega) (by omega)
  rw [if_pos rfl] at e3
  have t3 : trn j (pls pt ls).length 1 true = k := by rw [hj]; exact trn_back hk
  rw [t3, hg] at e3
  exact ⟨_, e1, by rw [← hj] at e2; exact e2, e3⟩
/-- A part of a line stands where it was cut. -/
theorem cut_mem {ls : List ByteArray} {i m J Z : Nat} {st s1 t2 : ByteArray} (hi : i < ls.length) (hst : st = lineAt ls i) (hm : m ≤ st.size) (h1 : s1 = st.extract m st.size) (hZ : Z = min J s1.size) (h2 : t2 = s1.extract 0 Z) (h0 : 0 < t2.size) : (i, m) ∈ pls t2 ls := by
  have hs1 : s1.size = st.size - m := by
    rw [← size_str, h1, ext_from, List.length_drop, size_str]
  have hs2 : t2.size = Z := by
    rw [← size_str, h2, ext_upto, List.length_take, size_str]; omega
  refine mem_pls hi ?_
  rw [← hst]
  refine occ_iff.2 ⟨h0, by show m + t2.size ≤ st.size; omega, ?_⟩
  rw [hs2, h2, h1, ext_ext]

theorem all5_n (a : Option Addr) (n c : Nat) (ls : List ByteArray) (pt : ByteArray) (w : World) (h : Ss w a n c ls) (hs : ∀ s ∈ ls, s.size ≤ 140737488355328) (hp : pt.size ≤ 140737488355328) (htz : tz ls ≤ 900000) :
    Calls Try.prog 14 #[.slice a n c, .string pt] w fun e w' => ∃ b N cc, e = .returned (.slice b N cc) ∧ Ps w' b N cc (pls pt ls) ∧ Below w.heap.size w w' :=
  (all5_any a n c ls pt w h hs hp htz).mono fun e w' ⟨b, cc, h1, h2, h3⟩ => ⟨b, _, cc, h1, h2, h3⟩
theorem walk (a : Option Addr) (n c' : Nat) (ls : List ByteArray) (x y q : Int) (w : World) (h : Ss w a n c' ls) (hs : ∀ s ∈ ls, s.size ≤ 140737488355328) (hx : (Lit.int .u16 x).wf = true) (hy : (Lit.int .u16 y).wf = true) (hq0 : (Lit.int .u8 q).wf = true) :
    Calls Try.prog 5 #[.slice a n c', .int .u16 x, .int .u16 y, .int .u8 q] w fun e w' => e = .returned (.bool true) ∧ Below w.heap.size w w' := by
  have hk := known_any w
  have x2 : 0 ≤ x ∧ x ≤ 65535 := by simpa [Lit.wf, IntKind.min, IntKind.max, IntKind.signed, IntKind.bits] using hx
  have y2 : 0 ≤ y ∧ y ≤ 65535 := by simpa [Lit.wf, IntKind.min, IntKind.max, IntKind.signed, IntKind.bits] using hy
  have q2 : 0 ≤ q ∧ q ≤ 255 := by simpa [Lit.wf, IntKind.min, IntKind.max, IntKind.signed, IntKind.bits] using hq0
  obtain ⟨J, hJ, hJ5⟩ : ∃ J : Nat, q % 3 = (J : Int) ∧ J < 3 := ⟨(q % 3).toNat, by omega, by omega⟩
  have hJt : q.tmod 3 = (J : Int) := by rw [Int.tmod_eq_emod_of_nonneg q2.1]; exact hJ
  have hwJ : IntKind.i64.wrap (J : Int) = (J : Int) := by rw [IntKind.wrap_i64]; omega
  obtain ⟨J1, hJ1a, hJ1b⟩ : ∃ J1 : Nat, J + 1 ≤ J1 ∧ J1 ≤ J + 1 := ⟨J + 1, by omega, by omega⟩
  have hwJ1 : IntKind.i64.wrap ((J : Int) + 1) = (J1 : Int) := by rw [IntKind.wrap_i64]; omega
  go_enter Try.func5, Try.ntmps5
  go_wp2_with fail
  refine hk.mono ?_
  rintro e w1 ⟨rfl, hb1⟩
  have hs1 := SrcV.below h hb1
  have HB1 := Lib.hid hb1
  have htx := text_any a n c' ls w1 hs1 hs
  have HS1 := Lib.hid hs1
  clear hk hb1 h hs1
  go_wp2_with fail
  refine htx.mono ?_
  rintro e w' ⟨qq, rfl, rfl, hq⟩
  clear htx
  cases qq
  · clear hq
    go_wp2
    go_ret
    exact ⟨rfl, HB1.out⟩
  obtain ⟨hn0, hn40, hz, _⟩ := hq rfl
  clear hq
  have hse := seat_any a n c' ls x y w1 HS1.out hn0 hs x2 y2
  go_wp2_with fail
  refine hse.mono ?_
  rintro e w2 ⟨⟨i, m, rfl, hi, hm⟩, hb⟩
  have D := Lib.hid hb
  clear hse hb
  go_upto_region 6 with fail
  obtain ⟨x2, hx2⟩ : ∃ x2, x2 = w2.alloc (.cells #[.int .i64 (i : Int), .int .i64 (m : Int)] 27) := ⟨_, rfl⟩
  have hA : Below w2.heap.size w2 x2 := by rw [hx2]; exact (Below.refl _ w2).alloc (Nat.le_refl _) _
  have hV := PosAt.new w2 (i : Int) (m : Int)
  rw [← hx2] at hV ⊢
  have gg_D := D.out.size
  have D := Lib.hid (below_on D.out hA)
  obtain ⟨b_P, hbf⟩ : ∃ b, b = w2.heap.size := ⟨_, rfl⟩
  rw [← hbf] at hV ⊢
  have g_P_D := Lib.hid (show w1.heap.size ≤ b_P by rw [hbf]; exact gg_D)
  clear gg_D
  have P := Lib.hid hV
  clear hV hA hx2 hbf
  have c_P := P.out
  have P0 := c_P.c0
  have P1 := c_P.c1
  clear c_P
  have hlen := Ss.length HS1.out
  have hin : lineAt ls i ∈ ls := by rw [lineAt_get (by omega)]; exact List.getElem_mem _
  have hsz : (lineAt ls i).size + 1 ≤ tz ls := tz_mem _ _ hin
  obtain ⟨bs, os, ha, hcell, hnc, _⟩ := Ss.read HS1.out i (by omega)
  rw [← lineAt_get (by omega)] at hcell
  subst ha
  obtain ⟨st, hst⟩ : ∃ st, st = lineAt ls i := ⟨_, rfl⟩
  rw [← hst] at hcell hsz hm
  have fL := fun y : Gr x2 => y.cell (cell_later D.out hcell)
  have fP0 := fun y : Gr x2 => y.cell P0
  have fP1 := fun y : Gr x2 => y.cell P1
  have z0 : (m : Int) ≤ (st.size : Int) := by omega
  have HST := Lib.hid hst
  clear hst hin hcell hlen
  clear P0 P1
  refine wp_region_grow (by kernel_rfl) (by kernel_rfl) ?_
  repeat (go_big_quiet_step (fail))
  refine wpQuiet_nil ?_
  rintro w3 ⟨⟨_, hb⟩, rfl⟩
  clear fL fP0 fP1 z0
  obtain ⟨s1, hs1⟩ : ∃ s, s = st.extract m st.size := ⟨_, rfl⟩
  rw [← hs1]
  have D := Lib.hid (below_on D.out hb)
  have P := Lib.hid (P.out.below hb P.out.lt)
  clear hb
  obtain ⟨Z, hZ⟩ : ∃ Z : Nat, Z = min J1 s1.size := ⟨_, rfl⟩
  have i1 : min (J1 : Int) (s1.size : Int) = (Z : Int) := by omega
  have i2 : (if (s1.size : Int) < (J1 : Int) then (s1.size : Int) else (J1 : Int)) = (Z : Int) := by omega
  have i3 : (if s1.size < J1 then (s1.size : Int) else (J1 : Int)) = (Z : Int) := by split <;> omega
  have i4 : min J1 s1.size = Z := hZ.symm
  have z1 : (Z : Int) ≤ (s1.size : Int) := by omega
  have z2 : Z ≤ s1.size := by omega
  obtain ⟨t2, ht2⟩ : ∃ s, s = s1.extract 0 Z := ⟨_, rfl⟩
  have hz2 : t2.size ≤ 1000 := by
    have h1 : t2.data.toList = (s1.data.toList.take Z) := by rw [ht2, ext_upto]
    have h2 := congrArg List.length h1
    rw [size_str, List.length_take, size_str] at h2
    omega
  have HZ := Lib.hid (And.intro hZ (And.intro hs1 ht2))
  clear hZ hs1 ht2
  go_upto_region 8 with fail
  rw [← HZ.out.2.2]
  clear i1 i2 i3 i4 z1 z2
  have c_P := P.out
  have P0 := c_P.c0
  have P1 := c_P.c1
  clear c_P
  by_cases h0 : t2.size = 0
  · have he := empty_of_zero h0
    clear h0
    go_wp2
    go_ret
    exact ⟨rfl, below_on HB1.out D.out⟩
  have he := empty_of_pos (x := t2) (by omega)
  have lS : (pls t2 ls).length ≤ 1240 := Nat.le_trans (pls_tz _ _) hz
  have hlen := Ss.length HS1.out
  have hmem := cut_mem (by omega) HST.out hm HZ.out.2.1 HZ.out.1 HZ.out.2.2 (by omega)
  obtain ⟨v, e1, e2, e3⟩ := round_trip hmem (by omega)
  have hdo := all5_n _ n c' ls t2 w3 (SrcV.below HS1.out D.out) hs (by omega) (by omega)
  have he1 := fun W => Mv.eq_pos (i : Int) (m : Int) (i : Int) (m : Int) W
  simp only [decide_true, Bool.and_self] at he1
  clear h0 hmem hlen
  go_wp2_with fail
  refine (hdo).mono ?_
  rintro e v4 ⟨bW, NW, cW, rfl, hp, hb⟩
  clear P0 P1
  have D := Lib.hid (below_on D.out hb)
  have P := Lib.hid (P.out.below hb P.out.lt)
  clear hb hdo
  have hNW := hp.length
  rw [hNW] at e1 lS
  clear hp hNW he
  have c1 := fun W (hW : Below w1.heap.size w1 W) => search_any _ n c' ls i m t2 false (NW : Int) W (SrcV.below HS1.out hW) hs (by omega) (by omega)
  have c2 := fun W (hW : Below w1.heap.size w1 W) => search_any _ n c' ls i m t2 false 1 W (SrcV.below HS1.out hW) hs (by omega) (by omega)
  have c3 := fun W (hW : Below w1.heap.size w1 W) => search_any _ n c' ls v.1 v.2 t2 true 1 W (SrcV.below HS1.out hW) hs (by omega) (by omega)
  rw [e1] at c1
  rw [e2] at c2
  rw [e3] at c3
  clear e1 e2 e3
  have c_P := P.out
  have P0 := c_P.c0
  have P1 := c_P.c1
  clear c_P
  go_wp2_with fail
  refine (c1 _ D.out).mono ?_
  rintro e v5 ⟨rfl, hb⟩
  clear P0 P1
  have D := Lib.hid (below_on D.out hb)
  have P := Lib.hid (P.out.below hb P.out.lt)
  clear hb c1
  go_upto_region 12 with fail
  obtain ⟨y1, hy1⟩ : ∃ y1, y1 = v5.alloc (.cells #[.int .i64 (i : Int), .int .i64 (m : Int), .int .i64 0, .bool true, .int .i64 (-1)] 40) := ⟨_, rfl⟩
  have hA : Below v5.heap.size v5 y1 := by rw [hy1]; exact (Below.refl _ v5).alloc (Nat.le_refl _) _
  have hV := MvAt.new v5 (i : Int) (m : Int) 0 (-1) true
  rw [← hy1] at hV ⊢
  have lt_P := P.out.lt
  have gg_D := D.out.size
  have D := Lib.hid (below_on D.out hA)
  have P := Lib.hid (P.out.below hA P.out.lt)
  obtain ⟨b_A, hbf⟩ : ∃ b, b = v5.heap.size := ⟨_, rfl⟩
  rw [← hbf] at hV ⊢
  have n_P_A := Lib.hid (show b_P ≠ b_A by omega)
  clear lt_P
  have g_A_D := Lib.hid (show w1.heap.size ≤ b_A by rw [hbf]; exact gg_D)
  clear gg_D
  have A := Lib.hid hV
  clear hV hA hy1 hbf
  have c_P := P.out
  have P0 := c_P.c0
  have P1 := c_P.c1
  clear c_P
  have c_A := A.out
  have A0 := c_A.c0
  have A1 := c_A.c1
  have A2 := c_A.c2
  have A3 := c_A.c3
  have A4 := c_A.c4
  clear c_A
  go_wp2_with fail
  refine (c2 _ D.out).mono ?_
  rintro e v6 ⟨rfl, hb⟩
  clear P0 P1 A0 A1 A2 A3 A4
  have D := Lib.hid (below_on D.out hb)
  have P := Lib.hid (P.out.below hb P.out.lt)
  have A := Lib.hid (A.out.below hb A.out.lt)
  clear hb c2
  go_upto_region 13 with fail
  obtain ⟨y2, hy2⟩ : ∃ y2, y2 = v6.alloc (.cells #[.int .i64 (v.1 : Int), .int .i64 (v.2 : Int), .int .i64 0, .bool true, .int .i64 (-1)] 40) := ⟨_, rfl⟩
  have hA : Below v6.heap.size v6 y2 := by rw [hy2]; exact (Below.refl _ v6).alloc (Nat.le_refl _) _
  have hV := MvAt.new v6 (v.1 : Int) (v.2 : Int) 0 (-1) true
  rw [← hy2] at hV ⊢
  have lt_P := P.out.lt
  have lt_A := A.out.lt
  have gg_D := D.out.size
  have D := Lib.hid (below_on D.out hA)
  have P := Lib.hid (P.out.below hA P.out.lt)
  have A := Lib.hid (A.out.below hA A.out.lt)
  obtain ⟨b_B, hbf⟩ : ∃ b, b = v6.heap.size := ⟨_, rfl⟩
  rw [← hbf] at hV ⊢
  have n_P_B := Lib.hid (show b_P ≠ b_B by omega)
  clear lt_P
  have n_A_B := Lib.hid (show b_A ≠ b_B by omega)
  clear lt_A
  have g_B_D := Lib.hid (show w1.heap.size ≤ b_B by rw [hbf]; exact gg_D)
  clear gg_D
  have B := Lib.hid hV
  clear hV hA hy2 hbf
  have c_P := P.out
  have P0 := c_P.c0
  have P1 := c_P.c1
  clear c_P
  have c_A := A.out
  have A0 := c_A.c0
  have A1 := c_A.c1
  have A2 := c_A.c2
  have A3 := c_A.c3
  have A4 := c_A.c4
  clear c_A
  have c_B := B.out
  have B0 := c_B.c0
  have B1 := c_B.c1
  have B2 := c_B.c2
  have B3 := c_B.c3
  have B4 := c_B.c4
  clear c_B
  go_wp2_with fail
  refine (c3 _ D.out).mono ?_
  rintro e v7 ⟨rfl, hb⟩
  clear P0 P1 A0 A1 A2 A3 A4 B0 B1 B2 B3 B4
  have D := Lib.hid (below_on D.out hb)
  have P := Lib.hid (P.out.below hb P.out.lt)
  have A := Lib.hid (A.out.below hb A.out.lt)
  have B := Lib.hid (B.out.below hb B.out.lt)
  clear hb c3
  go_upto_region 14 with fail
  obtain ⟨y3, hy3⟩ : ∃ y3, y3 = v7.alloc (.cells #[.int .i64 (i : Int), .int .i64 (m : Int), .int .i64 0, .bool true, .int .i64 (-1)] 40) := ⟨_, rfl⟩
  have hA : Below v7.heap.size v7 y3 := by rw [hy3]; exact (Below.refl _ v7).alloc (Nat.le_refl _) _
  have hV := MvAt.new v7 (i : Int) (m : Int) 0 (-1) true
  rw [← hy3] at hV ⊢
  have lt_P := P.out.lt
  have lt_A := A.out.lt
  have lt_B := B.out.lt
  have gg_D := D.out.size
  have D := Lib.hid (below_on D.out hA)
  have P := Lib.hid (P.out.below hA P.out.lt)
  have A := Lib.hid (A.out.below hA A.out.lt)
  have B := Lib.hid (B.out.below hA B.out.lt)
  obtain ⟨b_C, hbf⟩ : ∃ b, b = v7.heap.size := ⟨_, rfl⟩
  rw [← hbf] at hV ⊢
  have n_P_C := Lib.hid (show b_P ≠ b_C by omega)
  clear lt_P
  have n_A_C := Lib.hid (show b_A ≠ b_C by omega)
  clear lt_A
  have n_B_C := Lib.hid (show b_B ≠ b_C by omega)
  clear lt_B
  have g_C_D := Lib.hid (show w1.heap.size ≤ b_C by rw [hbf]; exact gg_D)
  clear gg_D
  have C := Lib.hid hV
  clear hV hA hy3 hbf
  have c_P := P.out
  have P0 := c_P.c0
  have P1 := c_P.c1
  clear c_P
  have c_A := A.out
  have A0 := c_A.c0
  have A1 := c_A.c1
  have A2 := c_A.c2
  have A3 := c_A.c3
  have A4 := c_A.c4
  clear c_A
  have c_B := B.out
  have B0 := c_B.c0
  have B1 := c_B.c1
  have B2 := c_B.c2
  have B3 := c_B.c3
  have B4 := c_B.c4
  clear c_B
  have c_C := C.out
  have C0 := c_C.c0
  have C1 := c_C.c1
  have C2 := c_C.c2
  have C3 := c_C.c3
  have C4 := c_C.c4
  clear c_C
  go_wp2
  go_ret
  exact ⟨rfl, below_on HB1.out D.out⟩
end Go.Proofs.Ythlneojhkhhmbaa.FRou
