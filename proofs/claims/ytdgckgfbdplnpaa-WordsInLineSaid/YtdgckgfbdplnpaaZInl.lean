/-
  The law WordsInLine, walked.
-/
import Derived.Test.YtdgckgfbdplnpaaZk
set_option linter.unusedVariables false
set_option linter.unusedSimpArgs false
set_option maxRecDepth 100000
namespace Go.Proofs.Ytdgckgfbdplnpaa.ZInl
open Go Go.RowKit Go.Proofs.Ytdgckgfbdplnpaa.Vk Go.Proofs.Ytdgckgfbdplnpaa.Str Go.Proofs.Ytdgckgfbdplnpaa.Ln Go.Proofs.Ytdgckgfbdplnpaa.Cl Go.Proofs.Ytdgckgfbdplnpaa.Mv Go.Proofs.Ytdgckgfbdplnpaa.Wd
attribute [local go_sem] Oper.semAt_some
set_option maxHeartbeats 4000000

theorem mem_col {big : Bool} {ls : List ByteArray} {x : P2} (h : x ∈ sts big ls) : x.1 < ls.length ∧ x.2 ≤ (lineAt ls x.1).size := by
  obtain ⟨h1, h2⟩ := mks_mem h
  exact ⟨h1, by rcases h2 with ⟨h2, _⟩ | ⟨_, h2, h3⟩ <;> omega⟩
theorem op_facts {big : Bool} {ls : List ByteArray} {p : P2} {K : Nat} (hp1 : p.1 < ls.length) (hK : 1 ≤ K) {t u : P2 × Bool} (ht : t = opV ls p (aft (sts big ls) p) K) (hu : u = nthV (aft (sts big ls) p) K) :
    (t.2 = false → u.2 = true → p.1 < u.1.1) ∧ (t.2 = true → lp p t.1 = true ∧ t.1.1 < ls.length ∧ t.1.2 ≤ (lineAt ls t.1.1).size) ∧
    (t.2 = true → u.2 = true → t.1 = u.1 ∨ t.1.1 < u.1.1 ∧ t.1.2 = (lineAt ls t.1.1).size) := by
  have hmem : ∀ j, j < (aft (sts big ls) p).length → ∃ x, (aft (sts big ls) p).getD j (0, 0) = x ∧ lp p x = true ∧ x.1 < ls.length ∧ x.2 ≤ (lineAt ls x.1).size := fun j hj => by
    refine ⟨(aft (sts big ls) p)[j], by rw [List.getD_eq_getElem?_getD, List.getElem?_eq_getElem hj]; rfl, ?_⟩
    obtain ⟨h1, h2⟩ := List.mem_filter.1 (List.getElem_mem hj)
    exact ⟨h2, mem_col h1⟩
  generalize aft (sts big ls) p = xs at *
  by_cases h1 : xs.length < K - 1
  · have e1 : t = ((0, 0), false) := by rw [ht]; unfold opV; rw [if_pos h1]
    have e2 : u = ((0, 0), false) := by rw [hu]; exact nthV_no (by omega)
    rw [e1, e2]
    simp
  · have e1 : t = (opG ls p xs K, lp p (opG ls p xs K)) := by rw [ht]; unfold opV; rw [if_neg h1]
    by_cases h2 : K ≤ xs.length
    · obtain ⟨x, hx, x1, x2, x3⟩ := hmem (K - 1) (by omega)
      have e2 : u = (x, true) := by rw [hu]; unfold nthV; rw [if_neg (by omega), hx]
      obtain ⟨f, hf, f1, f2, f3⟩ : ∃ f, (if 1 < K then xs.getD (K - 2) (0, 0) else p) = f ∧ (1 < K ∧ lp p f = true ∧ f.2 ≤ (lineAt ls f.1).size ∨ f = p) ∧ f.1 < ls.length ∧ True := by
        by_cases h3 : 1 < K
        · obtain ⟨f, hf, y1, y2, y3⟩ := hmem (K - 2) (by omega)
          exact ⟨f, (if_pos h3).trans hf, .inl ⟨h3, y1, y3⟩, y2, trivial⟩
        · exact ⟨p, if_neg h3, .inr rfl, hp1, trivial⟩
      by_cases h4 : f.1 < x.1
      · have e3 := opG_cut (ls := ls) h2 hx hf h4
        rw [e3] at e1
        rw [e1, e2]
        refine ⟨fun hh _ => ?_, fun hh => ⟨hh, f2, Nat.le_refl _⟩, fun _ _ => .inr ⟨h4, rfl⟩⟩
        rcases f1 with ⟨_, g1, g2⟩ | rfl
        · have g3 := lp_iff.1 g1
          have g4 := lp_false.1 hh
          simp only [endP] at g4
          omega
        · exact h4
      · have e3 := opG_at (ls := ls) h2 hx hf h4
        rw [e3] at e1
        rw [e1, e2]
        exact ⟨fun hh => (by rw [show lp p x = false from hh] at x1; cases x1), fun _ => ⟨x1, x2, x3⟩, fun _ _ => .inl rfl⟩
    · have e2 : u = ((0, 0), false) := by rw [hu]; exact nthV_no (by omega)
      have e3 : opG ls p xs K = endP ls (ls.length - 1) := opG_end (by omega)
      rw [e3] at e1
      rw [e1, e2]
      exact ⟨fun _ hh => (by cases hh), fun hh => ⟨hh, by show ls.length - 1 < ls.length; omega, Nat.le_refl _⟩, fun _ hh => (by cases hh)⟩
theorem inl_facts {big : Bool} {ls : List ByteArray} {i k K : Nat} (hP : Plc ls (i : Int) (k : Int)) (hi : i < ls.length) (hK : 1 ≤ K) {r1 r2 : R} (h1 : r1 = nextR ls i k K big true) (h2 : r2 = nextR ls i k K big false) :
    (r1.ok = false → r2.ok = true → (i : Int) < r2.l) ∧ (r1.ok = true → ∃ a b : Nat, r1.l = a ∧ r1.c = b ∧ So.lt i k a b = true ∧ a < ls.length ∧ b ≤ (lineAt ls a).size) ∧
    (r1.ok = true → r2.ok = true → (r1.l = r2.l ∧ r1.c = r2.c) ∨ (r1.l < r2.l ∧ r1.c = ((lineAt ls r1.l.toNat).size : Int))) := by
  obtain ⟨f1, f2, f3⟩ := op_facts (p := (i, k)) (big := big) (K := K) hi hK rfl rfl
  have e1 : r1 = mvd (opV ls (i, k) (aft (sts big ls) (i, k)) K) 0 := by rw [h1]; exact (ifm_yes hP hK).trans (by simp)
  have e2 : r2 = mvd (nthV (aft (sts big ls) (i, k)) K) 0 := by rw [h2]; exact (ifm_yes hP hK).trans (by simp)
  generalize opV ls (i, k) (aft (sts big ls) (i, k)) K = t at *
  generalize nthV (aft (sts big ls) (i, k)) K = u at *
  obtain ⟨⟨a, b⟩, o⟩ := t
  obtain ⟨⟨a', b'⟩, o'⟩ := u
  subst e1 e2
  clear h1 h2
  cases o <;> cases o' <;> simp only [mvd, R.no, Bool.false_eq_true, if_false, if_true] at * <;> refine ⟨?_, ?_, ?_⟩ <;> intro g1 <;> try (first | cases g1 | skip)
  all_goals try (intro g2; first | cases g2 | skip)
  · have := f1 (by trivial) (by trivial); omega
  · obtain ⟨g1, g2, g3⟩ := f2 (by trivial)
    exact ⟨a, b, rfl, rfl, g1, g2, g3⟩
  · obtain ⟨g1, g2, g3⟩ := f2 (by trivial)
    exact ⟨a, b, rfl, rfl, g1, g2, g3⟩
  · rcases f3 (by trivial) (by trivial) with g | ⟨g1, g2⟩
    · injection g with g1 g2
      subst g1 g2
      exact .inl ⟨rfl, rfl⟩
    · exact .inr ⟨by omega, by rw [Int.toNat_natCast]; exact congrArg Nat.cast g2⟩

theorem walk (a : Option Addr) (n c' : Nat) (ls : List ByteArray) (x y q : Int) (big : Bool) (w : World) (h : Ss w a n c' ls) (hs : ∀ s ∈ ls, s.size ≤ 140737488355328) (hx : (Lit.int .u16 x).wf = true) (hy : (Lit.int .u16 y).wf = true) (hq0 : (Lit.int .u8 q).wf = true) :
    Calls Try.prog 6 #[.slice a n c', .int .u16 x, .int .u16 y, .int .u8 q, .bool big] w fun e w' => e = .returned (.bool true) ∧ Below w.heap.size w w' := by
  have hk := known_any w
  have x2 : 0 ≤ x ∧ x ≤ 65535 := by simpa [Lit.wf, IntKind.min, IntKind.max, IntKind.signed, IntKind.bits] using hx
  have y2 : 0 ≤ y ∧ y ≤ 65535 := by simpa [Lit.wf, IntKind.min, IntKind.max, IntKind.signed, IntKind.bits] using hy
  have q2 : 0 ≤ q ∧ q ≤ 255 := by simpa [Lit.wf, IntKind.min, IntKind.max, IntKind.signed, IntKind.bits] using hq0
  obtain ⟨J, hJ, hJ5⟩ : ∃ J : Nat, q % 5 = (J : Int) ∧ J < 5 := ⟨(q % 5).toNat, by omega, by omega⟩
  have hJt : q.tmod 5 = (J : Int) := by rw [Int.tmod_eq_emod_of_nonneg q2.1]; exact hJ
  obtain ⟨K, hK1, hK2⟩ : ∃ K, J + 1 ≤ K ∧ K ≤ J + 1 := ⟨J + 1, by omega, by omega⟩
  have hwJ : IntKind.i64.wrap (J : Int) = (J : Int) := wrap_id (by omega) (by omega)
  have hwK : IntKind.i64.wrap ((J : Int) + 1) = (K : Int) := by rw [wrap_id (by omega) (by omega)]; omega
  go_enter Try.func6, Try.ntmps6
  go_wp2_with fail
  refine hk.mono ?_
  rintro e w1 ⟨rfl, hb1⟩
  have htx := text_any a n c' ls w1 (SrcV.below h hb1) hs
  have HS1 := Lib.hid (SrcV.below h hb1)
  have HB1 := Lib.hid hb1
  clear hk hb1 h
  go_wp2_with fail
  refine htx.mono ?_
  rintro e w' ⟨qq, rfl, rfl, hq⟩
  clear htx
  cases qq
  · clear hq
    go_wp2
    go_ret
    exact ⟨rfl, HB1.out⟩
  obtain ⟨hn0, hn40, hz, _⟩ := hq rfl
  clear hq
  have hse := seat_any a n c' ls x y w1 HS1.out hn0 hs x2 y2
  go_wp2_with fail
  refine hse.mono ?_
  rintro e w2 ⟨⟨i, m, rfl, hi, hm⟩, hb2⟩
  have D := Lib.hid hb2
  clear hse hb2
  go_upto_region 6 with fail
  obtain ⟨x2, hx2⟩ : ∃ x2, x2 = w2.alloc (.cells #[.int .i64 (i : Int), .int .i64 (m : Int)] 35) := ⟨_, rfl⟩
  have hA : Below w2.heap.size w2 x2 := by rw [hx2]; exact (Below.refl _ w2).alloc (Nat.le_refl _) _
  have hV := PosAt.new w2 (i : Int) (m : Int)
  rw [← hx2] at hV ⊢
  have gg_D := D.out.size
  have D := Lib.hid (below_on D.out hA)
  obtain ⟨b_P, hbf⟩ : ∃ b, b = w2.heap.size := ⟨_, rfl⟩
  rw [← hbf] at hV ⊢
  have g_P_D := Lib.hid (show w1.heap.size ≤ b_P by rw [hbf]; exact gg_D)
  clear gg_D
  have P := Lib.hid hV
  clear hV hA hx2 hbf
  have c_P := P.out
  have P0 := c_P.c0
  have P1 := c_P.c1
  clear c_P
  have hlen := Ss.length HS1.out
  have hP : Plc ls (i : Int) (m : Int) := (plc_nat (by omega)).2 hm
  have c1 := fun W (hW : Below w1.heap.size w1 W) => next_any a n c' ls i m K big true W (SrcV.below HS1.out hW) hs (by omega) (by omega)
  have c2 := fun W (hW : Below w1.heap.size w1 W) => next_any a n c' ls i m K big false W (SrcV.below HS1.out hW) hs (by omega) (by omega)
  obtain ⟨r1, hr1⟩ : ∃ r, r = nextR ls i m K big true := ⟨_, rfl⟩
  obtain ⟨r2, hr2⟩ : ∃ r, r = nextR ls i m K big false := ⟨_, rfl⟩
  rw [← hr1] at c1
  rw [← hr2] at c2
  have HF := inl_facts hP (by omega) (by omega) hr1 hr2
  clear hr1 hr2 hP
  obtain ⟨l1, q1, y1, j1, t1, o1⟩ := r1
  obtain ⟨l2, p2, y2', j2, t2, o2⟩ := r2
  dsimp only [R.v] at c1 c2 HF
  have HH := Lib.hid HF
  clear HF
  go_wp2_with fail
  refine (c1 _ D.out).mono ?_
  rintro e v1 ⟨rfl, hb⟩
  clear P0 P1
  have D := Lib.hid (below_on D.out hb)
  have P := Lib.hid (P.out.below hb P.out.lt)
  clear hb c1
  go_upto_region 8 with fail
  obtain ⟨z1, hz1⟩ : ∃ z1, z1 = v1.alloc (.cells #[.int .i64 l1, .int .i64 q1, .int .i64 y1, .bool j1, .int .i64 t1] 40) := ⟨_, rfl⟩
  have hA : Below v1.heap.size v1 z1 := by rw [hz1]; exact (Below.refl _ v1).alloc (Nat.le_refl _) _
  have hV := MvAt.new v1 l1 q1 y1 t1 j1
  rw [← hz1] at hV ⊢
  have lt_P := P.out.lt
  have gg_D := D.out.size
  have D := Lib.hid (below_on D.out hA)
  have P := Lib.hid (P.out.below hA P.out.lt)
  obtain ⟨b_A, hbf⟩ : ∃ b, b = v1.heap.size := ⟨_, rfl⟩
  rw [← hbf] at hV ⊢
  have n_P_A := Lib.hid (show b_P ≠ b_A by omega)
  clear lt_P
  have g_A_D := Lib.hid (show w1.heap.size ≤ b_A by rw [hbf]; exact gg_D)
  clear gg_D
  have A := Lib.hid hV
  clear hV hA hz1 hbf
  have c_P := P.out
  have P0 := c_P.c0
  have P1 := c_P.c1
  clear c_P
  have c_A := A.out
  have A0 := c_A.c0
  have A1 := c_A.c1
  have A2 := c_A.c2
  have A3 := c_A.c3
  have A4 := c_A.c4
  clear c_A
  go_wp2_with fail
  refine (c2 _ D.out).mono ?_
  rintro e v2 ⟨rfl, hb⟩
  clear P0 P1 A0 A1 A2 A3 A4
  have D := Lib.hid (below_on D.out hb)
  have P := Lib.hid (P.out.below hb P.out.lt)
  have A := Lib.hid (A.out.below hb A.out.lt)
  clear hb c2
  go_upto_region 9 with fail
  obtain ⟨z2, hz2⟩ : ∃ z2, z2 = v2.alloc (.cells #[.int .i64 l2, .int .i64 p2, .int .i64 y2', .bool j2, .int .i64 t2] 40) := ⟨_, rfl⟩
  have hA : Below v2.heap.size v2 z2 := by rw [hz2]; exact (Below.refl _ v2).alloc (Nat.le_refl _) _
  have hV := MvAt.new v2 l2 p2 y2' t2 j2
  rw [← hz2] at hV ⊢
  have lt_P := P.out.lt
  have lt_A := A.out.lt
  have gg_D := D.out.size
  have D := Lib.hid (below_on D.out hA)
  have P := Lib.hid (P.out.below hA P.out.lt)
  have A := Lib.hid (A.out.below hA A.out.lt)
  obtain ⟨b_B, hbf⟩ : ∃ b, b = v2.heap.size := ⟨_, rfl⟩
  rw [← hbf] at hV ⊢
  have n_P_B := Lib.hid (show b_P ≠ b_B by omega)
  clear lt_P
  have n_A_B := Lib.hid (show b_A ≠ b_B by omega)
  clear lt_A
  have g_B_D := Lib.hid (show w1.heap.size ≤ b_B by rw [hbf]; exact gg_D)
  clear gg_D
  have B := Lib.hid hV
  clear hV hA hz2 hbf
  have c_P := P.out
  have P0 := c_P.c0
  have P1 := c_P.c1
  clear c_P
  have c_A := A.out
  have A0 := c_A.c0
  have A1 := c_A.c1
  have A2 := c_A.c2
  have A3 := c_A.c3
  have A4 := c_A.c4
  clear c_A
  have c_B := B.out
  have B0 := c_B.c0
  have B1 := c_B.c1
  have B2 := c_B.c2
  have B3 := c_B.c3
  have B4 := c_B.c4
  clear c_B
  cases o1
  · cases o2
    · go_wp2
      go_ret
      exact ⟨rfl, below_on HB1.out D.out⟩
    · have hA := HH.out.1 (by trivial) (by trivial)
      have hd : decide ((i : Int) < l2) = true := decide_eq_true hA
      clear hA
      go_wp2
      go_ret
      exact ⟨rfl, below_on HB1.out D.out⟩
  · cases o2
    · obtain ⟨a1, b1, rfl, rfl, hlt, ha1, hb1⟩ := HH.out.2.1 (by trivial)
      have hls := fun z : Gr z2 => So.less5_any i m a1 b1 z.W
      rw [hlt] at hls
      obtain ⟨bl, ol, hbl, hcl, hnl, _⟩ := Ss.read HS1.out a1 (by omega)
      rw [← lineAt_get (by omega)] at hcl
      obtain ⟨st, hst⟩ : ∃ st, st = lineAt ls a1 := ⟨_, rfl⟩
      rw [← hst] at hcl hb1
      subst hbl
      have han : a1 < n := by omega
      have hd : decide (st.size < b1) = false := decide_eq_false (by omega)
      have hd2 : decide ((st.size : Int) < (b1 : Int)) = false := decide_eq_false (by omega)
      have HST := Lib.hid hst
      have HCL := Lib.hid hcl
      have c9 := cell_later D.out HCL.out
      clear hst hcl hlt
      go_wp2_with fail
      have f_P0 := fun z : Gr z2 => z.cell P0
      have f_P1 := fun z : Gr z2 => z.cell P1
      have f_A0 := fun z : Gr z2 => z.cell A0
      have f_A1 := fun z : Gr z2 => z.cell A1
      have f_A2 := fun z : Gr z2 => z.cell A2
      have f_A3 := fun z : Gr z2 => z.cell A3
      have f_A4 := fun z : Gr z2 => z.cell A4
      have f_B0 := fun z : Gr z2 => z.cell B0
      have f_B1 := fun z : Gr z2 => z.cell B1
      have f_B2 := fun z : Gr z2 => z.cell B2
      have f_B3 := fun z : Gr z2 => z.cell B3
      have f_B4 := fun z : Gr z2 => z.cell B4
      have f_c9 := fun z : Gr z2 => z.cell c9
      clear P0 P1 A0 A1 A2 A3 A4 B0 B1 B2 B3 B4
      clear c9
      refine wp_region_grow (by kernel_rfl) (by kernel_rfl) ?_
      repeat (go_big_quiet_step (first | (go_at_call 27; exact Calls.grow_of (hls _))))
      refine wpQuiet_nil ?_
      rintro u1 ⟨⟨_, hb⟩, rfl⟩
      clear f_P0 f_P1 f_A0 f_A1 f_A2 f_A3 f_A4 f_B0 f_B1 f_B2 f_B3 f_B4 f_c9
      have D := Lib.hid (below_on D.out hb)
      have P := Lib.hid (P.out.below hb P.out.lt)
      have A := Lib.hid (A.out.below hb A.out.lt)
      have B := Lib.hid (B.out.below hb B.out.lt)
      clear hb
      have c_P := P.out
      have P0 := c_P.c0
      have P1 := c_P.c1
      clear c_P
      have c_A := A.out
      have A0 := c_A.c0
      have A1 := c_A.c1
      have A2 := c_A.c2
      have A3 := c_A.c3
      have A4 := c_A.c4
      clear c_A
      have c_B := B.out
      have B0 := c_B.c0
      have B1 := c_B.c1
      have B2 := c_B.c2
      have B3 := c_B.c3
      have B4 := c_B.c4
      clear c_B
      clear hls hd hd2 hb1
      have c9 := cell_later D.out HCL.out
      go_wp2_with fail
      have f_P0 := fun z : Gr u1 => z.cell P0
      have f_P1 := fun z : Gr u1 => z.cell P1
      have f_A0 := fun z : Gr u1 => z.cell A0
      have f_A1 := fun z : Gr u1 => z.cell A1
      have f_A2 := fun z : Gr u1 => z.cell A2
      have f_A3 := fun z : Gr u1 => z.cell A3
      have f_A4 := fun z : Gr u1 => z.cell A4
      have f_B0 := fun z : Gr u1 => z.cell B0
      have f_B1 := fun z : Gr u1 => z.cell B1
      have f_B2 := fun z : Gr u1 => z.cell B2
      have f_B3 := fun z : Gr u1 => z.cell B3
      have f_B4 := fun z : Gr u1 => z.cell B4
      have f_c9 := fun z : Gr u1 => z.cell c9
      clear P0 P1 A0 A1 A2 A3 A4 B0 B1 B2 B3 B4
      clear c9
      refine wp_region_grow (by kernel_rfl) (by kernel_rfl) ?_
      repeat (go_big_quiet_step (fail))
      refine wpQuiet_nil ?_
      rintro u2 ⟨⟨_, hb⟩, rfl⟩
      clear f_P0 f_P1 f_A0 f_A1 f_A2 f_A3 f_A4 f_B0 f_B1 f_B2 f_B3 f_B4 f_c9
      have D := Lib.hid (below_on D.out hb)
      have P := Lib.hid (P.out.below hb P.out.lt)
      have A := Lib.hid (A.out.below hb A.out.lt)
      have B := Lib.hid (B.out.below hb B.out.lt)
      clear hb
      have c_P := P.out
      have P0 := c_P.c0
      have P1 := c_P.c1
      clear c_P
      have c_A := A.out
      have A0 := c_A.c0
      have A1 := c_A.c1
      have A2 := c_A.c2
      have A3 := c_A.c3
      have A4 := c_A.c4
      clear c_A
      have c_B := B.out
      have B0 := c_B.c0
      have B1 := c_B.c1
      have B2 := c_B.c2
      have B3 := c_B.c3
      have B4 := c_B.c4
      clear c_B
      go_wp2
      go_ret
      exact ⟨rfl, below_on HB1.out D.out⟩
    · obtain ⟨a1, b1, rfl, rfl, hlt, ha1, hb1⟩ := HH.out.2.1 (by trivial)
      have hls := fun z : Gr z2 => So.less5_any i m a1 b1 z.W
      rw [hlt] at hls
      obtain ⟨bl, ol, hbl, hcl, hnl, _⟩ := Ss.read HS1.out a1 (by omega)
      rw [← lineAt_get (by omega)] at hcl
      obtain ⟨st, hst⟩ : ∃ st, st = lineAt ls a1 := ⟨_, rfl⟩
      rw [← hst] at hcl hb1
      subst hbl
      have han : a1 < n := by omega
      have hd : decide (st.size < b1) = false := decide_eq_false (by omega)
      have hd2 : decide ((st.size : Int) < (b1 : Int)) = false := decide_eq_false (by omega)
      have HST := Lib.hid hst
      have HCL := Lib.hid hcl
      have c9 := cell_later D.out HCL.out
      clear hst hcl hlt
      go_wp2_with fail
      have f_P0 := fun z : Gr z2 => z.cell P0
      have f_P1 := fun z : Gr z2 => z.cell P1
      have f_A0 := fun z : Gr z2 => z.cell A0
      have f_A1 := fun z : Gr z2 => z.cell A1
      have f_A2 := fun z : Gr z2 => z.cell A2
      have f_A3 := fun z : Gr z2 => z.cell A3
      have f_A4 := fun z : Gr z2 => z.cell A4
      have f_B0 := fun z : Gr z2 => z.cell B0
      have f_B1 := fun z : Gr z2 => z.cell B1
      have f_B2 := fun z : Gr z2 => z.cell B2
      have f_B3 := fun z : Gr z2 => z.cell B3
      have f_B4 := fun z : Gr z2 => z.cell B4
      have f_c9 := fun z : Gr z2 => z.cell c9
      clear P0 P1 A0 A1 A2 A3 A4 B0 B1 B2 B3 B4
      clear c9
      refine wp_region_grow (by kernel_rfl) (by kernel_rfl) ?_
      repeat (go_big_quiet_step (first | (go_at_call 27; exact Calls.grow_of (hls _))))
      refine wpQuiet_nil ?_
      rintro u1 ⟨⟨_, hb⟩, rfl⟩
      clear f_P0 f_P1 f_A0 f_A1 f_A2 f_A3 f_A4 f_B0 f_B1 f_B2 f_B3 f_B4 f_c9
      have D := Lib.hid (below_on D.out hb)
      have P := Lib.hid (P.out.below hb P.out.lt)
      have A := Lib.hid (A.out.below hb A.out.lt)
      have B := Lib.hid (B.out.below hb B.out.lt)
      clear hb
      have c_P := P.out
      have P0 := c_P.c0
      have P1 := c_P.c1
      clear c_P
      have c_A := A.out
      have A0 := c_A.c0
      have A1 := c_A.c1
      have A2 := c_A.c2
      have A3 := c_A.c3
      have A4 := c_A.c4
      clear c_A
      have c_B := B.out
      have B0 := c_B.c0
      have B1 := c_B.c1
      have B2 := c_B.c2
      have B3 := c_B.c3
      have B4 := c_B.c4
      clear c_B
      clear hls hd hd2 hb1
      have hC := HH.out.2.2 (by trivial) (by trivial)
      rcases hC with ⟨rfl, rfl⟩ | ⟨hll, hcc⟩
      · have he : ∀ W, (binOp .eql 35 (.agg #[.int .i64 a1, .int .i64 b1]) (.agg #[.int .i64 a1, .int .i64 b1])).run Try.prog W = .ok (.bool true) W := fun W => by rw [eq_pos]; simp
        have c9 := cell_later D.out HCL.out
        go_wp2_with fail
        have f_P0 := fun z : Gr u1 => z.cell P0
        have f_P1 := fun z : Gr u1 => z.cell P1
        have f_A0 := fun z : Gr u1 => z.cell A0
        have f_A1 := fun z : Gr u1 => z.cell A1
        have f_A2 := fun z : Gr u1 => z.cell A2
        have f_A3 := fun z : Gr u1 => z.cell A3
        have f_A4 := fun z : Gr u1 => z.cell A4
        have f_B0 := fun z : Gr u1 => z.cell B0
        have f_B1 := fun z : Gr u1 => z.cell B1
        have f_B2 := fun z : Gr u1 => z.cell B2
        have f_B3 := fun z : Gr u1 => z.cell B3
        have f_B4 := fun z : Gr u1 => z.cell B4
        have f_c9 := fun z : Gr u1 => z.cell c9
        clear P0 P1 A0 A1 A2 A3 A4 B0 B1 B2 B3 B4
        clear c9
        refine wp_region_grow (by kernel_rfl) (by kernel_rfl) ?_
        repeat (go_big_quiet_step (fail))
        refine wpQuiet_nil ?_
        rintro u2 ⟨⟨_, hb⟩, rfl⟩
        clear f_P0 f_P1 f_A0 f_A1 f_A2 f_A3 f_A4 f_B0 f_B1 f_B2 f_B3 f_B4 f_c9
        have D := Lib.hid (below_on D.out hb)
        have P := Lib.hid (P.out.below hb P.out.lt)
        have A := Lib.hid (A.out.below hb A.out.lt)
        have B := Lib.hid (B.out.below hb B.out.lt)
        clear hb
        have c_P := P.out
        have P0 := c_P.c0
        have P1 := c_P.c1
        clear c_P
        have c_A := A.out
        have A0 := c_A.c0
        have A1 := c_A.c1
        have A2 := c_A.c2
        have A3 := c_A.c3
        have A4 := c_A.c4
        clear c_A
        have c_B := B.out
        have B0 := c_B.c0
        have B1 := c_B.c1
        have B2 := c_B.c2
        have B3 := c_B.c3
        have B4 := c_B.c4
        clear c_B
        go_wp2
        go_ret
        exact ⟨rfl, below_on HB1.out D.out⟩
      · have he : ∀ W, (binOp .eql 35 (.agg #[.int .i64 a1, .int .i64 b1]) (.agg #[.int .i64 l2, .int .i64 p2])).run Try.prog W = .ok (.bool false) W := fun W => by
          rw [eq_pos]
          have hne : ¬ ((a1 : Int) = l2) := by omega
          simp [hne]
        have hd : decide ((a1 : Int) < l2) = true := decide_eq_true hll
        rw [Int.toNat_natCast, ← HST.out] at hcc
        have hb1 : b1 = st.size := by omega
        subst hb1
        clear hcc hll
        have c9 := cell_later D.out HCL.out
        go_wp2_with fail
        have f_P0 := fun z : Gr u1 => z.cell P0
        have f_P1 := fun z : Gr u1 => z.cell P1
        have f_A0 := fun z : Gr u1 => z.cell A0
        have f_A1 := fun z : Gr u1 => z.cell A1
        have f_A2 := fun z : Gr u1 => z.cell A2
        have f_A3 := fun z : Gr u1 => z.cell A3
        have f_A4 := fun z : Gr u1 => z.cell A4
        have f_B0 := fun z : Gr u1 => z.cell B0
        have f_B1 := fun z : Gr u1 => z.cell B1
        have f_B2 := fun z : Gr u1 => z.cell B2
        have f_B3 := fun z : Gr u1 => z.cell B3
        have f_B4 := fun z : Gr u1 => z.cell B4
        have f_c9 := fun z : Gr u1 => z.cell c9
        clear P0 P1 A0 A1 A2 A3 A4 B0 B1 B2 B3 B4
        clear c9
        refine wp_region_grow (by kernel_rfl) (by kernel_rfl) ?_
        repeat (go_big_quiet_step (fail))
        refine wpQuiet_nil ?_
        rintro u2 ⟨⟨_, hb⟩, rfl⟩
        clear f_P0 f_P1 f_A0 f_A1 f_A2 f_A3 f_A4 f_B0 f_B1 f_B2 f_B3 f_B4 f_c9
        have D := Lib.hid (below_on D.out hb)
        have P := Lib.hid (P.out.below hb P.out.lt)
        have A := Lib.hid (A.out.below hb A.out.lt)
        have B := Lib.hid (B.out.below hb B.out.lt)
        clear hb
        have c_P := P.out
        have P0 := c_P.c0
        have P1 := c_P.c1
        clear c_P
        have c_A := A.out
        have A0 := c_A.c0
        have A1 := c_A.c1
        have A2 := c_A.c2
        have A3 := c_A.c3
        have A4 := c_A.c4
        clear c_A
        have c_B := B.out
        have B0 := c_B.c0
        have B1 := c_B.c1
        have B2 := c_B.c2
        have B3 := c_B.c3
        have B4 := c_B.c4
        clear c_B
        go_wp2
        go_ret
        exact ⟨rfl, below_on HB1.out D.out⟩
end Go.Proofs.Ytdgckgfbdplnpaa.ZInl
