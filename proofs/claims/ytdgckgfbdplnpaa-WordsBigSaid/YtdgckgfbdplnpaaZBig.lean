/-
  The law WordsBig, walked.
-/
import Derived.Test.YtdgckgfbdplnpaaZk
set_option linter.unusedVariables false
set_option linter.unusedSimpArgs false
set_option maxRecDepth 100000
namespace Go.Proofs.Ytdgckgfbdplnpaa.ZBig
open Go Go.RowKit Go.Proofs.Ytdgckgfbdplnpaa.Vk Go.Proofs.Ytdgckgfbdplnpaa.Str Go.Proofs.Ytdgckgfbdplnpaa.Ln Go.Proofs.Ytdgckgfbdplnpaa.Cl Go.Proofs.Ytdgckgfbdplnpaa.Mv Go.Proofs.Ytdgckgfbdplnpaa.Wd
attribute [local go_sem] Oper.semAt_some
set_option maxHeartbeats 4000000

theorem kl_zero (s : ByteArray) (j : Nat) : kl s true j = 0 ↔ kl s false j = 0 := by
  unfold kl
  generalize ((s.data.toList.getD j 0).toNat : Int) = c
  by_cases h : c = 32 ∨ c = 9
  · rw [cls_blank true h, cls_blank false h]
  · constructor
    · intro h2; exact absurd ((cls_zero c).1 h2) h
    · intro h2
      exfalso
      by_cases hw : 97 ≤ c ∧ c ≤ 122 ∨ 65 ≤ c ∧ c ≤ 90 ∨ 48 ≤ c ∧ c ≤ 57 ∨ c = 95 ∨ 128 ≤ c
      · rw [cls_word (by omega) (by omega) hw] at h2; omega
      · rw [cls_other (by omega) (by omega) hw] at h2; omega
theorem kl_one {s : ByteArray} {j : Nat} (h : kl s true j ≠ 0) : kl s true j = 1 := cls_one _ h
theorem beg_sub {s : ByteArray} {c : Nat} (h : beg true s c = true) : beg false s c = true := by
  simp only [beg, Bool.and_eq_true, Bool.or_eq_true, decide_eq_true_eq] at *
  obtain ⟨h1, h2⟩ := h
  have h3 : kl s false c ≠ 0 := fun hh => h1 ((kl_zero s c).2 hh)
  refine ⟨h3, h2.imp id fun h4 => ?_⟩
  have h5 : kl s true (c - 1) = 0 := Classical.byContradiction fun hh => h4 (by rw [kl_one hh, kl_one h1])
  rw [(kl_zero s _).1 h5]
  exact fun hh => h3 hh.symm
theorem fin_sub {s : ByteArray} {c : Nat} (h : fin true s c = true) : fin false s c = true := by
  simp only [fin, Bool.and_eq_true, Bool.or_eq_true, decide_eq_true_eq] at *
  obtain ⟨h1, h2⟩ := h
  have h3 : kl s false c ≠ 0 := fun hh => h1 ((kl_zero s c).2 hh)
  refine ⟨h3, h2.imp id fun h4 => ?_⟩
  have h5 : kl s true (c + 1) = 0 := Classical.byContradiction fun hh => h4 (by rw [kl_one hh, kl_one h1])
  rw [(kl_zero s _).1 h5]
  exact fun hh => h3 hh.symm
theorem mks_sub {e : Bool} {pr pr' : ByteArray → Nat → Bool} (hp : ∀ s c, pr s c = true → pr' s c = true) {ls : List ByteArray} {n : Nat} {x : P2} (h : x ∈ mks e pr ls n) : x ∈ mks e pr' ls n := by
  obtain ⟨h1, h2⟩ := mks_mem h
  exact mem_mks h1 (h2.imp (fun hh => ⟨hh.1, hp _ _ hh.2⟩) id)
theorem first_le {A B : List P2} (hB : B.Pairwise fun a b => lp a b = true) (hs : ∀ x ∈ A, x ∈ B) {x : P2} (h : nthV A 1 = (x, true)) : ∃ y, nthV B 1 = (y, true) ∧ lp x y = false := by
  cases A with
  | nil => simp [nthV] at h
  | cons a A =>
    have hx : a = x := by simpa [nthV] using h
    subst hx
    have hm := hs a (by simp)
    cases B with
    | nil => cases hm
    | cons y B =>
      refine ⟨y, by simp [nthV], ?_⟩
      rcases List.mem_cons.1 hm with rfl | hm
      · exact lp_irr _
      · have := lp_iff.1 ((List.pairwise_cons.1 hB).1 a hm)
        exact lp_false.2 (by omega)
theorem mvd_ok {t : P2 × Bool} {way : Int} (h : (mvd t way).ok = true) : t.2 = true := by
  unfold mvd at h
  split at h
  · assumption
  · cases h
theorem mvd_way (t : P2 × Bool) : (mvd t 0).way = 0 := by unfold mvd; split <;> rfl
theorem next_big {ls : List ByteArray} {i k : Nat} (hP : Plc ls (i : Int) (k : Int)) (h : (nextR ls i k 1 true false).ok = true) :
    (nextR ls i k 1 false false).ok = true ∧ So.lt (nextR ls i k 1 true false).l (nextR ls i k 1 true false).c (nextR ls i k 1 false false).l (nextR ls i k 1 false false).c = false := by
  have e1 : ∀ b, nextR ls i k 1 b false = mvd (nthV (aft (sts b ls) (i, k)) 1) 0 := fun b => (ifm_yes (m := 1) hP (by omega)).trans (by simp)
  rw [e1] at h ⊢
  rw [e1]
  have hk := mvd_ok h
  obtain ⟨y, hy, hl⟩ := first_le (B := aft (sts false ls) (i, k)) (x := (nthV (aft (sts true ls) (i, k)) 1).1) (List.Pairwise.filter _ (mks_sorted _))
    (fun x hx => by
      obtain ⟨h1, h2⟩ := List.mem_filter.1 hx
      exact List.mem_filter.2 ⟨mks_sub (fun s c => beg_sub) h1, h2⟩) (Prod.ext rfl hk)
  rw [hy]
  unfold mvd
  rw [if_pos hk, if_pos rfl]
  exact ⟨rfl, hl⟩
theorem tail_big {ls : List ByteArray} {i k : Nat} (hP : Plc ls (i : Int) (k : Int)) (h : (tailR ls i k 1 true false).ok = true) :
    (tailR ls i k 1 false false).ok = true ∧ So.lt (tailR ls i k 1 true false).l (tailR ls i k 1 true false).c (tailR ls i k 1 false false).l (tailR ls i k 1 false false).c = false := by
  have e1 : ∀ b, tailR ls i k 1 b false = mvd (nthV (aft (eds b ls) (i, k)) 1) 1 := fun b => (ifm_yes (m := 1) hP (by omega)).trans (by simp)
  rw [e1] at h ⊢
  rw [e1]
  have hk := mvd_ok h
  obtain ⟨y, hy, hl⟩ := first_le (B := aft (eds false ls) (i, k)) (x := (nthV (aft (eds true ls) (i, k)) 1).1) (List.Pairwise.filter _ (mks_sorted _))
    (fun x hx => by
      obtain ⟨h1, h2⟩ := List.mem_filter.1 hx
      exact List.mem_filter.2 ⟨mks_sub (fun s c => fin_sub) h1, h2⟩) (Prod.ext rfl hk)
  rw [hy]
  unfold mvd
  rw [if_pos hk, if_pos rfl]
  exact ⟨rfl, hl⟩
theorem next_way {ls : List ByteArray} {i k : Nat} (hP : Plc ls (i : Int) (k : Int)) : (nextR ls i k 1 true false).way = 0 := by
  have e1 : nextR ls i k 1 true false = mvd (nthV (aft (sts true ls) (i, k)) 1) 0 := (ifm_yes (m := 1) hP (by omega)).trans (by simp)
  rw [e1]; exact mvd_way _

theorem walk (a : Option Addr) (n c' : Nat) (ls : List ByteArray) (x y : Int) (w : World) (h : Ss w a n c' ls) (hs : ∀ s ∈ ls, s.size ≤ 140737488355328) (hx : (Lit.int .u16 x).wf = true) (hy : (Lit.int .u16 y).wf = true) :
    Calls Try.prog 7 #[.slice a n c', .int .u16 x, .int .u16 y] w fun e w' => e = .returned (.bool true) ∧ Below w.heap.size w w' := by
  have hk := known_any w
  have x2 : 0 ≤ x ∧ x ≤ 65535 := by simpa [Lit.wf, IntKind.min, IntKind.max, IntKind.signed, IntKind.bits] using hx
  have y2 : 0 ≤ y ∧ y ≤ 65535 := by simpa [Lit.wf, IntKind.min, IntKind.max, IntKind.signed, IntKind.bits] using hy
  go_enter Try.func7, Try.ntmps7
  go_wp2_with fail
  refine hk.mono ?_
  rintro e w1 ⟨rfl, hb1⟩
  have htx := text_any a n c' ls w1 (SrcV.below h hb1) hs
  have HS1 := Lib.hid (SrcV.below h hb1)
  have HB1 := Lib.hid hb1
  clear hk hb1 h
  go_wp2_with fail
  refine htx.mono ?_
  rintro e w' ⟨qq, rfl, rfl, hq⟩
  clear htx
  cases qq
  · clear hq
    go_wp2
    go_ret
    exact ⟨rfl, HB1.out⟩
  obtain ⟨hn0, hn40, hz, _⟩ := hq rfl
  clear hq
  have hse := seat_any a n c' ls x y w1 HS1.out hn0 hs x2 y2
  go_wp2_with fail
  refine hse.mono ?_
  rintro e w2 ⟨⟨i, m, rfl, hi, hm⟩, hb2⟩
  have D := Lib.hid hb2
  clear hse hb2
  go_upto_region 6 with fail
  obtain ⟨x2, hx2⟩ : ∃ x2, x2 = w2.alloc (.cells #[.int .i64 (i : Int), .int .i64 (m : Int)] 35) := ⟨_, rfl⟩
  have hA : Below w2.heap.size w2 x2 := by rw [hx2]; exact (Below.refl _ w2).alloc (Nat.le_refl _) _
  have hV := PosAt.new w2 (i : Int) (m : Int)
  rw [← hx2] at hV ⊢
  have gg_D := D.out.size
  have D := Lib.hid (below_on D.out hA)
  obtain ⟨b_P, hbf⟩ : ∃ b, b = w2.heap.size := ⟨_, rfl⟩
  rw [← hbf] at hV ⊢
  have g_P_D := Lib.hid (show w1.heap.size ≤ b_P by rw [hbf]; exact gg_D)
  clear gg_D
  have P := Lib.hid hV
  clear hV hA hx2 hbf
  have c_P := P.out
  have P0 := c_P.c0
  have P1 := c_P.c1
  clear c_P
  have hlen := Ss.length HS1.out
  have hP : Plc ls (i : Int) (m : Int) := (plc_nat (by omega)).2 hm
  have c1 := fun W (hW : Below w1.heap.size w1 W) => next_any a n c' ls i m 1 true false W (SrcV.below HS1.out hW) hs (by omega) (by omega)
  have c2 := fun W (hW : Below w1.heap.size w1 W) => next_any a n c' ls i m 1 false false W (SrcV.below HS1.out hW) hs (by omega) (by omega)
  have c3 := fun W (hW : Below w1.heap.size w1 W) => tail_any a n c' ls i m 1 true false W (SrcV.below HS1.out hW) hs (by omega) (by omega)
  have c4 := fun W (hW : Below w1.heap.size w1 W) => tail_any a n c' ls i m 1 false false W (SrcV.below HS1.out hW) hs (by omega) (by omega)
  have H1 := fun h => next_big (ls := ls) hP h
  have H2 := fun h => tail_big (ls := ls) hP h
  have H3 := next_way (ls := ls) hP
  clear hP
  obtain ⟨r1, hr⟩ : ∃ r, r = nextR ls i m 1 true false := ⟨_, rfl⟩
  rw [← hr] at c1 H1 H3
  clear hr
  obtain ⟨l1, q1, y1, j1, t1, o1⟩ := r1
  obtain ⟨r2, hr⟩ : ∃ r, r = nextR ls i m 1 false false := ⟨_, rfl⟩
  rw [← hr] at c2 H1
  clear hr
  obtain ⟨l2, q2, y2, j2, t2, o2⟩ := r2
  obtain ⟨r3, hr⟩ : ∃ r, r = tailR ls i m 1 true false := ⟨_, rfl⟩
  rw [← hr] at c3 H2
  clear hr
  obtain ⟨l3, q3, y3, j3, t3, o3⟩ := r3
  obtain ⟨r4, hr⟩ : ∃ r, r = tailR ls i m 1 false false := ⟨_, rfl⟩
  rw [← hr] at c4 H2
  clear hr
  obtain ⟨l4, q4, y4, j4, t4, o4⟩ := r4
  dsimp only [R.v] at c1 c2 c3 c4 H1 H2 H3
  have HH := Lib.hid (And.intro H1 H2)
  subst H3
  clear H1 H2
  go_wp2_with fail
  refine (c1 _ D.out).mono ?_
  rintro e v1 ⟨rfl, hb⟩
  clear P0 P1
  have D := Lib.hid (below_on D.out hb)
  have P := Lib.hid (P.out.below hb P.out.lt)
  clear hb c1
  go_upto_region 7 with fail
  obtain ⟨z1, hz1⟩ : ∃ z1, z1 = v1.alloc (.cells #[.int .i64 l1, .int .i64 q1, .int .i64 0, .bool j1, .int .i64 t1] 40) := ⟨_, rfl⟩
  have hA : Below v1.heap.size v1 z1 := by rw [hz1]; exact (Below.refl _ v1).alloc (Nat.le_refl _) _
  have hV := MvAt.new v1 l1 q1 0 t1 j1
  rw [← hz1] at hV ⊢
  have lt_P := P.out.lt
  have gg_D := D.out.size
  have D := Lib.hid (below_on D.out hA)
  have P := Lib.hid (P.out.below hA P.out.lt)
  obtain ⟨b_A, hbf⟩ : ∃ b, b = v1.heap.size := ⟨_, rfl⟩
  rw [← hbf] at hV ⊢
  have n_P_A := Lib.hid (show b_P ≠ b_A by omega)
  clear lt_P
  have g_A_D := Lib.hid (show w1.heap.size ≤ b_A by rw [hbf]; exact gg_D)
  clear gg_D
  have A := Lib.hid hV
  clear hV hA hz1 hbf
  have c_P := P.out
  have P0 := c_P.c0
  have P1 := c_P.c1
  clear c_P
  have c_A := A.out
  have A0 := c_A.c0
  have A1 := c_A.c1
  have A2 := c_A.c2
  have A3 := c_A.c3
  have A4 := c_A.c4
  clear c_A
  go_wp2_with fail
  refine (c2 _ D.out).mono ?_
  rintro e v2 ⟨rfl, hb⟩
  clear P0 P1 A0 A1 A2 A3 A4
  have D := Lib.hid (below_on D.out hb)
  have P := Lib.hid (P.out.below hb P.out.lt)
  have A := Lib.hid (A.out.below hb A.out.lt)
  clear hb c2
  go_upto_region 8 with fail
  obtain ⟨z2, hz2⟩ : ∃ z2, z2 = v2.alloc (.cells #[.int .i64 l2, .int .i64 q2, .int .i64 y2, .bool j2, .int .i64 t2] 40) := ⟨_, rfl⟩
  have hA : Below v2.heap.size v2 z2 := by rw [hz2]; exact (Below.refl _ v2).alloc (Nat.le_refl _) _
  have hV := MvAt.new v2 l2 q2 y2 t2 j2
  rw [← hz2] at hV ⊢
  have lt_P := P.out.lt
  have lt_A := A.out.lt
  have gg_D := D.out.size
  have D := Lib.hid (below_on D.out hA)
  have P := Lib.hid (P.out.below hA P.out.lt)
  have A := Lib.hid (A.out.below hA A.out.lt)
  obtain ⟨b_B, hbf⟩ : ∃ b, b = v2.heap.size := ⟨_, rfl⟩
  rw [← hbf] at hV ⊢
  have n_P_B := Lib.hid (show b_P ≠ b_B by omega)
  clear lt_P
  have n_A_B := Lib.hid (show b_A ≠ b_B by omega)
  clear lt_A
  have g_B_D := Lib.hid (show w1.heap.size ≤ b_B by rw [hbf]; exact gg_D)
  clear gg_D
  have B := Lib.hid hV
  clear hV hA hz2 hbf
  have c_P := P.out
  have P0 := c_P.c0
  have P1 := c_P.c1
  clear c_P
  have c_A := A.out
  have A0 := c_A.c0
  have A1 := c_A.c1
  have A2 := c_A.c2
  have A3 := c_A.c3
  have A4 := c_A.c4
  clear c_A
  have c_B := B.out
  have B0 := c_B.c0
  have B1 := c_B.c1
  have B2 := c_B.c2
  have B3 := c_B.c3
  have B4 := c_B.c4
  clear c_B
  go_wp2_with fail
  refine (c3 _ D.out).mono ?_
  rintro e v3 ⟨rfl, hb⟩
  clear P0 P1 A0 A1 A2 A3 A4 B0 B1 B2 B3 B4
  have D := Lib.hid (below_on D.out hb)
  have P := Lib.hid (P.out.below hb P.out.lt)
  have A := Lib.hid (A.out.below hb A.out.lt)
  have B := Lib.hid (B.out.below hb B.out.lt)
  clear hb c3
  go_upto_region 9 with fail
  obtain ⟨z3, hz3⟩ : ∃ z3, z3 = v3.alloc (.cells #[.int .i64 l3, .int .i64 q3, .int .i64 y3, .bool j3, .int .i64 t3] 40) := ⟨_, rfl⟩
  have hA : Below v3.heap.size v3 z3 := by rw [hz3]; exact (Below.refl _ v3).alloc (Nat.le_refl _) _
  have hV := MvAt.new v3 l3 q3 y3 t3 j3
  rw [← hz3] at hV ⊢
  have lt_P := P.out.lt
  have lt_A := A.out.lt
  have lt_B := B.out.lt
  have gg_D := D.out.size
  have D := Lib.hid (below_on D.out hA)
  have P := Lib.hid (P.out.below hA P.out.lt)
  have A := Lib.hid (A.out.below hA A.out.lt)
  have B := Lib.hid (B.out.below hA B.out.lt)
  obtain ⟨b_C, hbf⟩ : ∃ b, b = v3.heap.size := ⟨_, rfl⟩
  rw [← hbf] at hV ⊢
  have n_P_C := Lib.hid (show b_P ≠ b_C by omega)
  clear lt_P
  have n_A_C := Lib.hid (show b_A ≠ b_C by omega)
  clear lt_A
  have n_B_C := Lib.hid (show b_B ≠ b_C by omega)
  clear lt_B
  have g_C_D := Lib.hid (show w1.heap.size ≤ b_C by rw [hbf]; exact gg_D)
  clear gg_D
  have C := Lib.hid hV
  clear hV hA hz3 hbf
  have c_P := P.out
  have P0 := c_P.c0
  have P1 := c_P.c1
  clear c_P
  have c_A := A.out
  have A0 := c_A.c0
  have A1 := c_A.c1
  have A2 := c_A.c2
  have A3 := c_A.c3
  have A4 := c_A.c4
  clear c_A
  have c_B := B.out
  have B0 := c_B.c0
  have B1 := c_B.c1
  have B2 := c_B.c2
  have B3 := c_B.c3
  have B4 := c_B.c4
  clear c_B
  have c_C := C.out
  have C0 := c_C.c0
  have C1 := c_C.c1
  have C2 := c_C.c2
  have C3 := c_C.c3
  have C4 := c_C.c4
  clear c_C
  go_wp2_with fail
  refine (c4 _ D.out).mono ?_
  rintro e v4 ⟨rfl, hb⟩
  clear P0 P1 A0 A1 A2 A3 A4 B0 B1 B2 B3 B4 C0 C1 C2 C3 C4
  have D := Lib.hid (below_on D.out hb)
  have P := Lib.hid (P.out.below hb P.out.lt)
  have A := Lib.hid (A.out.below hb A.out.lt)
  have B := Lib.hid (B.out.below hb B.out.lt)
  have C := Lib.hid (C.out.below hb C.out.lt)
  clear hb c4
  go_upto_region 10 with fail
  obtain ⟨z4, hz4⟩ : ∃ z4, z4 = v4.alloc (.cells #[.int .i64 l4, .int .i64 q4, .int .i64 y4, .bool j4, .int .i64 t4] 40) := ⟨_, rfl⟩
  have hA : Below v4.heap.size v4 z4 := by rw [hz4]; exact (Below.refl _ v4).alloc (Nat.le_refl _) _
  have hV := MvAt.new v4 l4 q4 y4 t4 j4
  rw [← hz4] at hV ⊢
  have lt_P := P.out.lt
  have lt_A := A.out.lt
  have lt_B := B.out.lt
  have lt_C := C.out.lt
  have gg_D := D.out.size
  have D := Lib.hid (below_on D.out hA)
  have P := Lib.hid (P.out.below hA P.out.lt)
  have A := Lib.hid (A.out.below hA A.out.lt)
  have B := Lib.hid (B.out.below hA B.out.lt)
  have C := Lib.hid (C.out.below hA C.out.lt)
  obtain ⟨b_E, hbf⟩ : ∃ b, b = v4.heap.size := ⟨_, rfl⟩
  rw [← hbf] at hV ⊢
  have n_P_E := Lib.hid (show b_P ≠ b_E by omega)
  clear lt_P
  have n_A_E := Lib.hid (show b_A ≠ b_E by omega)
  clear lt_A
  have n_B_E := Lib.hid (show b_B ≠ b_E by omega)
  clear lt_B
  have n_C_E := Lib.hid (show b_C ≠ b_E by omega)
  clear lt_C
  have g_E_D := Lib.hid (show w1.heap.size ≤ b_E by rw [hbf]; exact gg_D)
  clear gg_D
  have E := Lib.hid hV
  clear hV hA hz4 hbf
  have c_P := P.out
  have P0 := c_P.c0
  have P1 := c_P.c1
  clear c_P
  have c_A := A.out
  have A0 := c_A.c0
  have A1 := c_A.c1
  have A2 := c_A.c2
  have A3 := c_A.c3
  have A4 := c_A.c4
  clear c_A
  have c_B := B.out
  have B0 := c_B.c0
  have B1 := c_B.c1
  have B2 := c_B.c2
  have B3 := c_B.c3
  have B4 := c_B.c4
  clear c_B
  have c_C := C.out
  have C0 := c_C.c0
  have C1 := c_C.c1
  have C2 := c_C.c2
  have C3 := c_C.c3
  have C4 := c_C.c4
  clear c_C
  have c_E := E.out
  have E0 := c_E.c0
  have E1 := c_E.c1
  have E2 := c_E.c2
  have E3 := c_E.c3
  have E4 := c_E.c4
  clear c_E
  cases o1
  · cases o3
    · go_wp2
      go_ret
      exact ⟨rfl, below_on HB1.out D.out⟩
    · obtain ⟨rfl, h34⟩ := HH.out.2 rfl
      have hl := So.less5_any l3 q3 l4 q4 z4
      rw [h34] at hl
      clear h34
      go_wp2_with fail
      refine (hl).mono ?_
      rintro e u2 ⟨rfl, hb⟩
      clear P0 P1 A0 A1 A2 A3 A4 B0 B1 B2 B3 B4 C0 C1 C2 C3 C4 E0 E1 E2 E3 E4
      have D := Lib.hid (below_on D.out hb)
      have P := Lib.hid (P.out.below hb P.out.lt)
      have A := Lib.hid (A.out.below hb A.out.lt)
      have B := Lib.hid (B.out.below hb B.out.lt)
      have C := Lib.hid (C.out.below hb C.out.lt)
      have E := Lib.hid (E.out.below hb E.out.lt)
      clear hb hl
      have c_P := P.out
      have P0 := c_P.c0
      have P1 := c_P.c1
      clear c_P
      have c_A := A.out
      have A0 := c_A.c0
      have A1 := c_A.c1
      have A2 := c_A.c2
      have A3 := c_A.c3
      have A4 := c_A.c4
      clear c_A
      have c_B := B.out
      have B0 := c_B.c0
      have B1 := c_B.c1
      have B2 := c_B.c2
      have B3 := c_B.c3
      have B4 := c_B.c4
      clear c_B
      have c_C := C.out
      have C0 := c_C.c0
      have C1 := c_C.c1
      have C2 := c_C.c2
      have C3 := c_C.c3
      have C4 := c_C.c4
      clear c_C
      have c_E := E.out
      have E0 := c_E.c0
      have E1 := c_E.c1
      have E2 := c_E.c2
      have E3 := c_E.c3
      have E4 := c_E.c4
      clear c_E
      go_wp2
      go_ret
      exact ⟨rfl, below_on HB1.out D.out⟩
  · cases o3
    · obtain ⟨rfl, h12⟩ := HH.out.1 rfl
      have hl := So.less5_any l1 q1 l2 q2 z4
      rw [h12] at hl
      clear h12
      go_wp2_with fail
      refine (hl).mono ?_
      rintro e u1 ⟨rfl, hb⟩
      clear P0 P1 A0 A1 A2 A3 A4 B0 B1 B2 B3 B4 C0 C1 C2 C3 C4 E0 E1 E2 E3 E4
      have D := Lib.hid (below_on D.out hb)
      have P := Lib.hid (P.out.below hb P.out.lt)
      have A := Lib.hid (A.out.below hb A.out.lt)
      have B := Lib.hid (B.out.below hb B.out.lt)
      have C := Lib.hid (C.out.below hb C.out.lt)
      have E := Lib.hid (E.out.below hb E.out.lt)
      clear hb hl
      have c_P := P.out
      have P0 := c_P.c0
      have P1 := c_P.c1
      clear c_P
      have c_A := A.out
      have A0 := c_A.c0
      have A1 := c_A.c1
      have A2 := c_A.c2
      have A3 := c_A.c3
      have A4 := c_A.c4
      clear c_A
      have c_B := B.out
      have B0 := c_B.c0
      have B1 := c_B.c1
      have B2 := c_B.c2
      have B3 := c_B.c3
      have B4 := c_B.c4
      clear c_B
      have c_C := C.out
      have C0 := c_C.c0
      have C1 := c_C.c1
      have C2 := c_C.c2
      have C3 := c_C.c3
      have C4 := c_C.c4
      clear c_C
      have c_E := E.out
      have E0 := c_E.c0
      have E1 := c_E.c1
      have E2 := c_E.c2
      have E3 := c_E.c3
      have E4 := c_E.c4
      clear c_E
      go_wp2
      go_ret
      exact ⟨rfl, below_on HB1.out D.out⟩
    · obtain ⟨rfl, h12⟩ := HH.out.1 rfl
      obtain ⟨rfl, h34⟩ := HH.out.2 rfl
      have hl := So.less5_any l1 q1 l2 q2 z4
      rw [h12] at hl
      clear h12
      go_wp2_with fail
      refine (hl).mono ?_
      rintro e u1 ⟨rfl, hb⟩
      clear P0 P1 A0 A1 A2 A3 A4 B0 B1 B2 B3 B4 C0 C1 C2 C3 C4 E0 E1 E2 E3 E4
      have D := Lib.hid (below_on D.out hb)
      have P := Lib.hid (P.out.below hb P.out.lt)
      have A := Lib.hid (A.out.below hb A.out.lt)
      have B := Lib.hid (B.out.below hb B.out.lt)
      have C := Lib.hid (C.out.below hb C.out.lt)
      have E := Lib.hid (E.out.below hb E.out.lt)
      clear hb hl
      have c_P := P.out
      have P0 := c_P.c0
      have P1 := c_P.c1
      clear c_P
      have c_A := A.out
      have A0 := c_A.c0
      have A1 := c_A.c1
      have A2 := c_A.c2
      have A3 := c_A.c3
      have A4 := c_A.c4
      clear c_A
      have c_B := B.out
      have B0 := c_B.c0
      have B1 := c_B.c1
      have B2 := c_B.c2
      have B3 := c_B.c3
      have B4 := c_B.c4
      clear c_B
      have c_C := C.out
      have C0 := c_C.c0
      have C1 := c_C.c1
      have C2 := c_C.c2
      have C3 := c_C.c3
      have C4 := c_C.c4
      clear c_C
      have c_E := E.out
      have E0 := c_E.c0
      have E1 := c_E.c1
      have E2 := c_E.c2
      have E3 := c_E.c3
      have E4 := c_E.c4
      clear c_E
      have hl := So.less5_any l3 q3 l4 q4 u1
      rw [h34] at hl
      clear h34
      go_wp2_with fail
      refine (hl).mono ?_
      rintro e u2 ⟨rfl, hb⟩
      clear P0 P1 A0 A1 A2 A3 A4 B0 B1 B2 B3 B4 C0 C1 C2 C3 C4 E0 E1 E2 E3 E4
      have D := Lib.hid (below_on D.out hb)
      have P := Lib.hid (P.out.below hb P.out.lt)
      have A := Lib.hid (A.out.below hb A.out.lt)
      have B := Lib.hid (B.out.below hb B.out.lt)
      have C := Lib.hid (C.out.below hb C.out.lt)
      have E := Lib.hid (E.out.below hb E.out.lt)
      clear hb hl
      have c_P := P.out
      have P0 := c_P.c0
      have P1 := c_P.c1
      clear c_P
      have c_A := A.out
      have A0 := c_A.c0
      have A1 := c_A.c1
      have A2 := c_A.c2
      have A3 := c_A.c3
      have A4 := c_A.c4
      clear c_A
      have c_B := B.out
      have B0 := c_B.c0
      have B1 := c_B.c1
      have B2 := c_B.c2
      have B3 := c_B.c3
      have B4 := c_B.c4
      clear c_B
      have c_C := C.out
      have C0 := c_C.c0
      have C1 := c_C.c1
      have C2 := c_C.c2
      have C3 := c_C.c3
      have C4 := c_C.c4
      clear c_C
      have c_E := E.out
      have E0 := c_E.c0
      have E1 := c_E.c1
      have E2 := c_E.c2
      have E3 := c_E.c3
      have E4 := c_E.c4
      clear c_E
      go_wp2
      go_ret
      exact ⟨rfl, below_on HB1.out D.out⟩

end Go.Proofs.Ytdgckgfbdplnpaa.ZBig
