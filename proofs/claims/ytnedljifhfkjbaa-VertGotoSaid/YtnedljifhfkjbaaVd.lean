/-
  Package vert and the document: Screen.
-/
import Derived.Test.YtnedljifhfkjbaaVb
set_option linter.unusedVariables false
set_option linter.unusedSimpArgs false
set_option maxRecDepth 100000
namespace Go.Proofs.Ytnedljifhfkjbaa.Vt
open Go Go.RowKit Go.Proofs.Ytnedljifhfkjbaa.Vk Go.Proofs.Ytnedljifhfkjbaa.Str Go.Proofs.Ytnedljifhfkjbaa.Ln Go.Proofs.Ytnedljifhfkjbaa.Cl Go.Proofs.Ytnedljifhfkjbaa.Mv
attribute [local go_sem] Oper.semAt_some

/-- To a line of the window that begins with line T and has H lines. -/
def winR (ls : List ByteArray) (T H y k : Int) : R :=
  if y = 72 then lineR ls (T + min k H - 1) true else if y = 76 then lineR ls (T + H - min k H) true else if y = 77 then lineR ls (T + (H - 1) / 2) true else R.no
def scrR (ls : List ByteArray) (l c t y k : Int) : R :=
  mayR ls l c k (if max t 0 < ls.length then winR ls (max t 0) (min (ls.length - max t 0) 10) y k else R.no)
theorem scrR_may {ls : List ByteArray} {l c t y k : Int} (hp : Plc ls l c) (hk : 1 ≤ k) (hT : ¬ max t 0 < ls.length) : scrR ls l c t y k = R.no := by
  unfold scrR mayR; rw [if_pos ⟨hp, hk⟩, if_neg hT]
theorem scrR_in {ls : List ByteArray} {l c t y k : Int} (hp : Plc ls l c) (hk : 1 ≤ k) (hT : max t 0 < ls.length) : scrR ls l c t y k = winR ls (max t 0) (min (ls.length - max t 0) 10) y k := by
  unfold scrR mayR; rw [if_pos ⟨hp, hk⟩, if_pos hT]
theorem scrR_no {ls : List ByteArray} {l c t y k : Int} (h : ¬ (Plc ls l c ∧ 1 ≤ k)) : scrR ls l c t y k = R.no := if_neg h

set_option maxHeartbeats 4000000 in
theorem screen_any (a : Option Addr) (n c' : Nat) (ls : List ByteArray) (l c : Int) (t y k : Int) (w : World) (h : Ss w a n c' ls) (hs : ∀ s ∈ ls, s.size ≤ 140737488355328) (hn6 : n ≤ 1000000) (ht63 : t ≤ 9223372036854775807) :
    Calls Try.prog 23 #[.slice a n c', .agg #[.int .i64 l, .int .i64 c], .int .i64 t, .int .u8 y, .int .i64 k] w fun e w' => e = .returned ((scrR ls l c t y k)).v ∧ Below w.heap.size w w' := by
  obtain ⟨X, hX⟩ : ∃ X, X = ((w.alloc (.cells #[.int .i64 l, .int .i64 c] 24)).alloc (.cells #[.int .i64 0, .int .i64 0, .int .i64 0, .bool false, .int .i64 0] 32)) := ⟨_, rfl⟩
  have hT' : Two w X l c := by rw [hX]; exact Two.new w l c
  have HX := Lib.hid hX
  have h1 := inside_any a n c' ls l c X (SrcV.below h hT'.below) hs
  have p0 := hT'.pos.c0
  have p1 := hT'.pos.c1
  have m0 := hT'.mv.c0
  have m1 := hT'.mv.c1
  have m2 := hT'.mv.c2
  have m3 := hT'.mv.c3
  have m4 := hT'.mv.c4
  have z := hT'.mv.z
  have hlen := h.length
  by_cases hp : Plc ls l c
  · rw [decide_eq_true hp] at h1
    by_cases hk : 1 ≤ k
    · obtain ⟨T, hTd⟩ : ∃ T, T = max t 0 := ⟨_, rfl⟩
      have hT : 0 ≤ T := by omega
      have hT0 := hT'
      have e1 : (if t < 0 then 0 else t) = T := by omega
      have e0 : max t 0 = T := hTd.symm
      have hk1 : ¬ k < 1 := by omega
      obtain ⟨Z, hZ⟩ : ∃ Z, Z = (n : Int) - T := ⟨_, rfl⟩
      have e2 : IntKind.i64.wrap ((n : Int) - T) = Z := by rw [IntKind.wrap_i64]; omega
      by_cases hTn : T < (n : Int)
      · have hr : (scrR ls l c t y k) = winR ls T (min (ls.length - T) 10) y k := by rw [← e0]; exact scrR_in hp hk (by omega)
        rw [hr, hlen, ← hZ]
        obtain ⟨H, hH⟩ : ∃ H, H = min Z 10 := ⟨_, rfl⟩
        have hZ0 : 1 ≤ H ∧ H ≤ 10 ∧ H ≤ Z := by omega
        have e3 : (if 10 < Z then 10 else Z) = H := by omega
        have e4 : min Z 10 = H := by omega
        rw [← hH]
        obtain ⟨N, hN⟩ : ∃ N, N = min k H := ⟨_, rfl⟩
        have e5 : (if H < k then H else k) = N := by omega
        have d1 : ¬ H < 1 := by omega
        have h3 := fun (D : Int) W (hW : Below w.heap.size w W) => tofirst_any a n c' ls D true W (SrcV.below h hW) hs
        clear hr hp h hs hX hlen hT'
        by_cases y1 : y = 72
        · subst y1
          have hw : winR ls T H 72 k = lineR ls (T + min k H - 1) true := if_pos rfl
          rw [hw]
          obtain ⟨D, hD⟩ : ∃ D, D = T + min k H - 1 := ⟨_, rfl⟩
          rw [← hD]
          have eN : min k H = N := hN.symm
          rw [eN] at hD
          have f1 : IntKind.i64.wrap (T + N) = T + N := by rw [IntKind.wrap_i64]; omega
          have f2 : IntKind.i64.wrap (T + N - 1) = D := by rw [IntKind.wrap_i64]; omega
          have h3 := h3 D
          obtain ⟨r, hrr⟩ : ∃ r, r = lineR ls D true := ⟨_, rfl⟩
          rw [← hrr] at h3 ⊢
          clear hw hrr hN hD hH hT hTn hZ hTd hk hZ0
          go_enter Try.func23, Try.ntmps23
          go_wp2_with fail
          rw [← HX.out]
          refine (h1).mono ?_
          rintro e w1 ⟨rfl, hb_w1⟩
          have hT1 := hT0.on hb_w1
          clear p0 p1 m0 m1 m2 m3 m4 z h1
          have p0 := hT1.pos.c0
          have p1 := hT1.pos.c1
          have m0 := hT1.mv.c0
          have m1 := hT1.mv.c1
          have m2 := hT1.mv.c2
          have m3 := hT1.mv.c3
          have m4 := hT1.mv.c4
          have z := hT1.mv.z
          go_wp2_with fail
          refine (h3 _ hT1.below).mono ?_
          rintro e w2 ⟨rfl, hb_w2⟩
          have hT2 := hT1.on hb_w2
          clear p0 p1 m0 m1 m2 m3 m4 z h3 hT0 hT1
          have p0 := hT2.pos.c0
          have p1 := hT2.pos.c1
          have m0 := hT2.mv.c0
          have m1 := hT2.mv.c1
          have m2 := hT2.mv.c2
          have m3 := hT2.mv.c3
          have m4 := hT2.mv.c4
          have z := hT2.mv.z
          go_wp2
          obtain ⟨hg, hb⟩ := hT2.ret r.l r.c r.way r.want r.j
          exact ret_mv (r := r) (g := w.heap.size + 1) rfl rfl rfl rfl hg ⟨rfl, hb⟩
        · by_cases y2 : y = 76
          · subst y2
            clear y1
            have hw : winR ls T H 76 k = lineR ls (T + H - min k H) true := by unfold winR; rw [if_neg (by decide), if_pos rfl]
            rw [hw]
            obtain ⟨D, hD⟩ : ∃ D, D = T + H - min k H := ⟨_, rfl⟩
            rw [← hD]
            have eN : min k H = N := hN.symm
            rw [eN] at hD
            have f1 : IntKind.i64.wrap (T + H) = T + H := by rw [IntKind.wrap_i64]; omega
            have f2 : IntKind.i64.wrap (T + H - N) = D := by rw [IntKind.wrap_i64]; omega
            have h3 := h3 D
            obtain ⟨r, hrr⟩ : ∃ r, r = lineR ls D true := ⟨_, rfl⟩
            rw [← hrr] at h3 ⊢
            clear hw hrr hN hD hH hT hTn hZ hTd hk hZ0
            go_enter Try.func23, Try.ntmps23
            go_wp2_with fail
            rw [← HX.out]
            refine (h1).mono ?_
            rintro e w1 ⟨rfl, hb_w1⟩
            have hT1 := hT0.on hb_w1
            clear p0 p1 m0 m1 m2 m3 m4 z h1
            have p0 := hT1.pos.c0
            have p1 := hT1.pos.c1
            have m0 := hT1.mv.c0
            have m1 := hT1.mv.c1
            have m2 := hT1.mv.c2
            have m3 := hT1.mv.c3
            have m4 := hT1.mv.c4
            have z := hT1.mv.z
            go_wp2_with fail
            refine (h3 _ hT1.below).mono ?_
            rintro e w2 ⟨rfl, hb_w2⟩
            have hT2 := hT1.on hb_w2
            clear p0 p1 m0 m1 m2 m3 m4 z h3 hT0 hT1
            have p0 := hT2.pos.c0
            have p1 := hT2.pos.c1
            have m0 := hT2.mv.c0
            have m1 := hT2.mv.c1
            have m2 := hT2.mv.c2
            have m3 := hT2.mv.c3
            have m4 := hT2.mv.c4
            have z := hT2.mv.z
            go_wp2
            obtain ⟨hg, hb⟩ := hT2.ret r.l r.c r.way r.want r.j
            exact ret_mv (r := r) (g := w.heap.size + 1) rfl rfl rfl rfl hg ⟨rfl, hb⟩
          · by_cases y3 : y = 77
            · subst y3
              clear y1 y2
              have hw : winR ls T H 77 k = lineR ls (T + (H - 1) / 2) true := by unfold winR; rw [if_neg (by decide), if_neg (by decide), if_pos rfl]
              rw [hw]
              obtain ⟨D, hD⟩ : ∃ D, D = T + (H - 1) / 2 := ⟨_, rfl⟩
              rw [← hD]
              have eN : min k H = N := hN.symm
              have f1 : IntKind.i64.wrap (H - 1) = H - 1 := by rw [IntKind.wrap_i64]; omega
              have f2 : (H - 1).tdiv 2 = (H - 1) / 2 := Int.tdiv_eq_ediv_of_nonneg (by omega)
              have f3 : IntKind.i64.wrap ((H - 1) / 2) = (H - 1) / 2 := by rw [IntKind.wrap_i64]; omega
              have f4 : IntKind.i64.wrap (T + (H - 1) / 2) = D := by rw [IntKind.wrap_i64]; omega
              have h3 := h3 D
              obtain ⟨r, hrr⟩ : ∃ r, r = lineR ls D true := ⟨_, rfl⟩
              rw [← hrr] at h3 ⊢
              clear hw hrr hN hD hH hT hTn hZ hTd hk hZ0
              go_enter Try.func23, Try.ntmps23
              go_wp2_with fail
              rw [← HX.out]
              refine (h1).mono ?_
              rintro e w1 ⟨rfl, hb_w1⟩
              have hT1 := hT0.on hb_w1
              clear p0 p1 m0 m1 m2 m3 m4 z h1
              have p0 := hT1.pos.c0
              have p1 := hT1.pos.c1
              have m0 := hT1.mv.c0
              have m1 := hT1.mv.c1
              have m2 := hT1.mv.c2
              have m3 := hT1.mv.c3
              have m4 := hT1.mv.c4
              have z := hT1.mv.z
              go_wp2_with fail
              refine (h3 _ hT1.below).mono ?_
              rintro e w2 ⟨rfl, hb_w2⟩
              have hT2 := hT1.on hb_w2
              clear p0 p1 m0 m1 m2 m3 m4 z h3 hT0 hT1
              have p0 := hT2.pos.c0
              have p1 := hT2.pos.c1
              have m0 := hT2.mv.c0
              have m1 := hT2.mv.c1
              have m2 := hT2.mv.c2
              have m3 := hT2.mv.c3
              have m4 := hT2.mv.c4
              have z := hT2.mv.z
              go_wp2
              obtain ⟨hg, hb⟩ := hT2.ret r.l r.c r.way r.want r.j
              exact ret_mv (r := r) (g := w.heap.size + 1) rfl rfl rfl rfl hg ⟨rfl, hb⟩
            · have hw : winR ls T H y k = R.no := by unfold winR; rw [if_neg y1, if_neg y2, if_neg y3]
              rw [hw]
              have b1 : (y == 72) = false := by rw [beq_eq_false_iff_ne]; exact y1
              have b2 : (y == 76) = false := by rw [beq_eq_false_iff_ne]; exact y2
              have b3 : (y == 77) = false := by rw [beq_eq_false_iff_ne]; exact y3
              have eN : min k H = N := hN.symm
              clear hw hN hH hT hTn hZ hTd hk h3 y1 y2 y3 hZ0
              go_enter Try.func23, Try.ntmps23
              go_wp2_with fail
              rw [← HX.out]
              refine (h1).mono ?_
              rintro e w1 ⟨rfl, hb_w1⟩
              have hT1 := hT0.on hb_w1
              clear p0 p1 m0 m1 m2 m3 m4 z h1 hT0
              have p0 := hT1.pos.c0
              have p1 := hT1.pos.c1
              have m0 := hT1.mv.c0
              have m1 := hT1.mv.c1
              have m2 := hT1.mv.c2
              have m3 := hT1.mv.c3
              have m4 := hT1.mv.c4
              have z := hT1.mv.z
              go_wp2
              obtain ⟨hg, hb⟩ := hT1.ret 0 0 0 0 false
              exact ret_mv (r := R.no) (g := w.heap.size + 1) rfl rfl rfl rfl hg ⟨rfl, hb⟩
      · have hr : (scrR ls l c t y k) = R.no := scrR_may hp hk (by omega)
        rw [hr]
        obtain ⟨H, hH⟩ : ∃ H, H = min Z 10 := ⟨_, rfl⟩
        have e3 : (if 10 < Z then 10 else Z) = H := by omega
        have e4 : min Z 10 = H := hH.symm
        have d1 : H < 1 := by omega
        clear hr hp h hs hX hlen hT' hTd hZ hT hH hTn hk
        go_enter Try.func23, Try.ntmps23
        go_wp2_with fail
        rw [← HX.out]
        refine (h1).mono ?_
        rintro e w1 ⟨rfl, hb_w1⟩
        have hT1 := hT0.on hb_w1
        clear p0 p1 m0 m1 m2 m3 m4 z h1 hT0
        have p0 := hT1.pos.c0
        have p1 := hT1.pos.c1
        have m0 := hT1.mv.c0
        have m1 := hT1.mv.c1
        have m2 := hT1.mv.c2
        have m3 := hT1.mv.c3
        have m4 := hT1.mv.c4
        have z := hT1.mv.z
        go_wp2
        obtain ⟨hg, hb⟩ := hT1.ret 0 0 0 0 false
        exact ret_mv (r := R.no) (g := w.heap.size + 1) rfl rfl rfl rfl hg ⟨rfl, hb⟩
    · have hr : (scrR ls l c t y k) = R.no := scrR_no fun hh => hk hh.2
      rw [hr]
      have hk1 : k < 1 := by omega
      clear hr h hs hX hp hk
      go_enter Try.func23, Try.ntmps23
      go_wp2_with fail
      rw [← HX.out]
      refine (h1).mono ?_
      rintro e w1 ⟨rfl, hb_w1⟩
      have hT1 := hT'.on hb_w1
      clear p0 p1 m0 m1 m2 m3 m4 z h1 hT'
      have p0 := hT1.pos.c0
      have p1 := hT1.pos.c1
      have m0 := hT1.mv.c0
      have m1 := hT1.mv.c1
      have m2 := hT1.mv.c2
      have m3 := hT1.mv.c3
      have m4 := hT1.mv.c4
      have z := hT1.mv.z
      go_wp2
      obtain ⟨hg, hb⟩ := hT1.ret 0 0 0 0 false
      exact ret_mv (r := R.no) (g := w.heap.size + 1) rfl rfl rfl rfl hg ⟨rfl, hb⟩
  · rw [decide_eq_false hp] at h1
    have hr : (scrR ls l c t y k) = R.no := scrR_no fun hh => hp hh.1
    rw [hr]
    clear hr h hs hX hp
    go_enter Try.func23, Try.ntmps23
    go_wp2_with fail
    rw [← HX.out]
    refine (h1).mono ?_
    rintro e w1 ⟨rfl, hb_w1⟩
    have hT1 := hT'.on hb_w1
    clear p0 p1 m0 m1 m2 m3 m4 z h1 hT'
    have p0 := hT1.pos.c0
    have p1 := hT1.pos.c1
    have m0 := hT1.mv.c0
    have m1 := hT1.mv.c1
    have m2 := hT1.mv.c2
    have m3 := hT1.mv.c3
    have m4 := hT1.mv.c4
    have z := hT1.mv.z
    go_wp2
    obtain ⟨hg, hb⟩ := hT1.ret 0 0 0 0 false
    exact ret_mv (r := R.no) (g := w.heap.size + 1) rfl rfl rfl rfl hg ⟨rfl, hb⟩

set_option maxHeartbeats 4000000 in
theorem screen5_any (a : Option Addr) (n c' : Nat) (ls : List ByteArray) (l c : Int) (t y k : Int) (w : World) (h : Ss w a n c' ls) (hs : ∀ s ∈ ls, s.size ≤ 140737488355328) (hn6 : n ≤ 1000000) (ht63 : t ≤ 9223372036854775807) :
    Calls Try.prog 24 #[.slice a n c', .agg #[.int .i64 l, .int .i64 c], .int .i64 t, .int .u8 y, .int .i64 k] w fun e w' => e = .returned ((scrR ls l c t y k)).v ∧ Below w.heap.size w w' := by
  obtain ⟨X, hX⟩ : ∃ X, X = ((w.alloc (.cells #[.int .i64 l, .int .i64 c] 24)).alloc (.cells #[.int .i64 0, .int .i64 0, .int .i64 0, .bool false, .int .i64 0] 32)) := ⟨_, rfl⟩
  have hT' : Two w X l c := by rw [hX]; exact Two.new w l c
  have HX := Lib.hid hX
  have h1 := may_any a n c' ls l c k X (SrcV.below h hT'.below)
  have p0 := hT'.pos.c0
  have p1 := hT'.pos.c1
  have m0 := hT'.mv.c0
  have m1 := hT'.mv.c1
  have m2 := hT'.mv.c2
  have m3 := hT'.mv.c3
  have m4 := hT'.mv.c4
  have z := hT'.mv.z
  have hlen := h.length
  by_cases hp' : Plc ls l c ∧ 1 ≤ k
  · rw [decide_eq_true hp'] at h1
    obtain ⟨hp, hk⟩ := hp'
    obtain ⟨T, hTd⟩ : ∃ T, T = max t 0 := ⟨_, rfl⟩
    have hT : 0 ≤ T := by omega
    have hT0 := hT'
    have e1 : (if t < 0 then 0 else t) = T := by omega
    have e0 : max t 0 = T := hTd.symm
    obtain ⟨Z, hZ⟩ : ∃ Z, Z = (n : Int) - T := ⟨_, rfl⟩
    have e2 : IntKind.i64.wrap ((n : Int) - T) = Z := by rw [IntKind.wrap_i64]; omega
    by_cases hTn : T < (n : Int)
    · have hr : (scrR ls l c t y k) = winR ls T (min (ls.length - T) 10) y k := by rw [← e0]; exact scrR_in hp hk (by omega)
      rw [hr, hlen, ← hZ]
      obtain ⟨H, hH⟩ : ∃ H, H = min Z 10 := ⟨_, rfl⟩
      have hZ0 : 1 ≤ H ∧ H ≤ 10 ∧ H ≤ Z := by omega
      have e3 : (if Z < 10 then Z else 10) = H := by omega
      have e4 : min 10 Z = H := by omega
      rw [← hH]
      obtain ⟨N, hN⟩ : ∃ N, N = min k H := ⟨_, rfl⟩
      have e5 : (if H < k then H else k) = N := by omega
      have d1 : decide ((n : Int) ≤ T) = false := decide_eq_false (by omega)
      have h3 := fun (D : Int) W (hW : Below w.heap.size w W) => line5_any a n c' ls D true W (SrcV.below h hW) hs
      clear hr hp h hs hX hlen hT'
      by_cases y1 : y = 72
      · subst y1
        have hw : winR ls T H 72 k = lineR ls (T + min k H - 1) true := if_pos rfl
        rw [hw]
        obtain ⟨D, hD⟩ : ∃ D, D = T + min k H - 1 := ⟨_, rfl⟩
        rw [← hD]
        have eN : min k H = N := hN.symm
        rw [eN] at hD
        have f1 : IntKind.i64.wrap (T + N) = T + N := by rw [IntKind.wrap_i64]; omega
        have f2 : IntKind.i64.wrap (T + N - 1) = D := by rw [IntKind.wrap_i64]; omega
        have h3 := h3 D
        obtain ⟨r, hrr⟩ : ∃ r, r = lineR ls D true := ⟨_, rfl⟩
        rw [← hrr] at h3 ⊢
        clear hw hrr hN hD hH hT hTn hZ hTd hk hZ0
        go_enter Try.func24, Try.ntmps24
        go_wp2_with fail
        rw [← HX.out]
        refine (h1).mono ?_
        rintro e w1 ⟨rfl, hb_w1⟩
        have hT1 := hT0.on hb_w1
        clear p0 p1 m0 m1 m2 m3 m4 z h1
        have p0 := hT1.pos.c0
        have p1 := hT1.pos.c1
        have m0 := hT1.mv.c0
        have m1 := hT1.mv.c1
        have m2 := hT1.mv.c2
        have m3 := hT1.mv.c3
        have m4 := hT1.mv.c4
        have z := hT1.mv.z
        go_wp2_with fail
        refine (h3 _ hT1.below).mono ?_
        rintro e w2 ⟨rfl, hb_w2⟩
        have hT2 := hT1.on hb_w2
        clear p0 p1 m0 m1 m2 m3 m4 z h3 hT0 hT1
        have p0 := hT2.pos.c0
        have p1 := hT2.pos.c1
        have m0 := hT2.mv.c0
        have m1 := hT2.mv.c1
        have m2 := hT2.mv.c2
        have m3 := hT2.mv.c3
        have m4 := hT2.mv.c4
        have z := hT2.mv.z
        go_wp2
        obtain ⟨hg, hb⟩ := hT2.ret r.l r.c r.way r.want r.j
        exact ret_mv (r := r) (g := w.heap.size + 1) rfl rfl rfl rfl hg ⟨rfl, hb⟩
      · by_cases y2 : y = 76
        · subst y2
          clear y1
          have hw : winR ls T H 76 k = lineR ls (T + H - min k H) true := by unfold winR; rw [if_neg (by decide), if_pos rfl]
          rw [hw]
          obtain ⟨D, hD⟩ : ∃ D, D = T + H - min k H := ⟨_, rfl⟩
          rw [← hD]
          have eN : min k H = N := hN.symm
          rw [eN] at hD
          have f1 : IntKind.i64.wrap (T + H) = T + H := by rw [IntKind.wrap_i64]; omega
          have f2 : IntKind.i64.wrap (T + H - N) = D := by rw [IntKind.wrap_i64]; omega
          have h3 := h3 D
          obtain ⟨r, hrr⟩ : ∃ r, r = lineR ls D true := ⟨_, rfl⟩
          rw [← hrr] at h3 ⊢
          clear hw hrr hN hD hH hT hTn hZ hTd hk hZ0
          go_enter Try.func24, Try.ntmps24
          go_wp2_with fail
          rw [← HX.out]
          refine (h1).mono ?_
          rintro e w1 ⟨rfl, hb_w1⟩
          have hT1 := hT0.on hb_w1
          clear p0 p1 m0 m1 m2 m3 m4 z h1
          have p0 := hT1.pos.c0
          have p1 := hT1.pos.c1
          have m0 := hT1.mv.c0
          have m1 := hT1.mv.c1
          have m2 := hT1.mv.c2
          have m3 := hT1.mv.c3
          have m4 := hT1.mv.c4
          have z := hT1.mv.z
          go_wp2_with fail
          refine (h3 _ hT1.below).mono ?_
          rintro e w2 ⟨rfl, hb_w2⟩
          have hT2 := hT1.on hb_w2
          clear p0 p1 m0 m1 m2 m3 m4 z h3 hT0 hT1
          have p0 := hT2.pos.c0
          have p1 := hT2.pos.c1
          have m0 := hT2.mv.c0
          have m1 := hT2.mv.c1
          have m2 := hT2.mv.c2
          have m3 := hT2.mv.c3
          have m4 := hT2.mv.c4
          have z := hT2.mv.z
          go_wp2
          obtain ⟨hg, hb⟩ := hT2.ret r.l r.c r.way r.want r.j
          exact ret_mv (r := r) (g := w.heap.size + 1) rfl rfl rfl rfl hg ⟨rfl, hb⟩
        · by_cases y3 : y = 77
          · subst y3
            clear y1 y2
            have hw : winR ls T H 77 k = lineR ls (T + (H - 1) / 2) true := by unfold winR; rw [if_neg (by decide), if_neg (by decide), if_pos rfl]
            rw [hw]
            obtain ⟨D, hD⟩ : ∃ D, D = T + (H - 1) / 2 := ⟨_, rfl⟩
            rw [← hD]
            have eN : min k H = N := hN.symm
            have f1 : IntKind.i64.wrap (H - 1) = H - 1 := by rw [IntKind.wrap_i64]; omega
            have f2 : (H - 1).tdiv 2 = (H - 1) / 2 := Int.tdiv_eq_ediv_of_nonneg (by omega)
            have f3 : IntKind.i64.wrap ((H - 1) / 2) = (H - 1) / 2 := by rw [IntKind.wrap_i64]; omega
            have f4 : IntKind.i64.wrap (T + (H - 1) / 2) = D := by rw [IntKind.wrap_i64]; omega
            have h3 := h3 D
            obtain ⟨r, hrr⟩ : ∃ r, r = lineR ls D true := ⟨_, rfl⟩
            rw [← hrr] at h3 ⊢
            clear hw hrr hN hD hH hT hTn hZ hTd hk hZ0
            go_enter Try.func24, Try.ntmps24
            go_wp2_with fail
            rw [← HX.out]
            refine (h1).mono ?_
            rintro e w1 ⟨rfl, hb_w1⟩
            have hT1 := hT0.on hb_w1
            clear p0 p1 m0 m1 m2 m3 m4 z h1
            have p0 := hT1.pos.c0
            have p1 := hT1.pos.c1
            have m0 := hT1.mv.c0
            have m1 := hT1.mv.c1
            have m2 := hT1.mv.c2
            have m3 := hT1.mv.c3
            have m4 := hT1.mv.c4
            have z := hT1.mv.z
            go_wp2_with fail
            refine (h3 _ hT1.below).mono ?_
            rintro e w2 ⟨rfl, hb_w2⟩
            have hT2 := hT1.on hb_w2
            clear p0 p1 m0 m1 m2 m3 m4 z h3 hT0 hT1
            have p0 := hT2.pos.c0
            have p1 := hT2.pos.c1
            have m0 := hT2.mv.c0
            have m1 := hT2.mv.c1
            have m2 := hT2.mv.c2
            have m3 := hT2.mv.c3
            have m4 := hT2.mv.c4
            have z := hT2.mv.z
            go_wp2
            obtain ⟨hg, hb⟩ := hT2.ret r.l r.c r.way r.want r.j
            exact ret_mv (r := r) (g := w.heap.size + 1) rfl rfl rfl rfl hg ⟨rfl, hb⟩
          · have hw : winR ls T H y k = R.no := by unfold winR; rw [if_neg y1, if_neg y2, if_neg y3]
            rw [hw]
            have b1 : (y == 72) = false := by rw [beq_eq_false_iff_ne]; exact y1
            have b2 : (y == 76) = false := by rw [beq_eq_false_iff_ne]; exact y2
            have b3 : (y == 77) = false := by rw [beq_eq_false_iff_ne]; exact y3
            have eN : min k H = N := hN.symm
            clear hw hN hH hT hTn hZ hTd hk h3 y1 y2 y3 hZ0
            go_enter Try.func24, Try.ntmps24
            go_wp2_with fail
            rw [← HX.out]
            refine (h1).mono ?_
            rintro e w1 ⟨rfl, hb_w1⟩
            have hT1 := hT0.on hb_w1
            clear p0 p1 m0 m1 m2 m3 m4 z h1 hT0
            have p0 := hT1.pos.c0
            have p1 := hT1.pos.c1
            have m0 := hT1.mv.c0
            have m1 := hT1.mv.c1
            have m2 := hT1.mv.c2
            have m3 := hT1.mv.c3
            have m4 := hT1.mv.c4
            have z := hT1.mv.z
            go_wp2_with fail
            refine (none_any _).mono ?_
            rintro e w2 ⟨rfl, hb_w2⟩
            have hT2 := hT1.on hb_w2
            clear p0 p1 m0 m1 m2 m3 m4 z
            have p0 := hT2.pos.c0
            have p1 := hT2.pos.c1
            have m0 := hT2.mv.c0
            have m1 := hT2.mv.c1
            have m2 := hT2.mv.c2
            have m3 := hT2.mv.c3
            have m4 := hT2.mv.c4
            have z := hT2.mv.z
            go_wp2
            obtain ⟨hg, hb⟩ := hT2.ret 0 0 0 0 false
            exact ret_mv (r := R.no) (g := w.heap.size + 1) rfl rfl rfl rfl hg ⟨rfl, hb⟩
    · have hr : (scrR ls l c t y k) = R.no := scrR_may hp hk (by omega)
      rw [hr]
  
      have d1 : decide ((n : Int) ≤ T) = true := decide_eq_true (by omega)
      clear hr hp h hs hX hlen hT' hTd hZ hT  hTn hk
      go_enter Try.func24, Try.ntmps24
      go_wp2_with fail
      rw [← HX.out]
      refine (h1).mono ?_
      rintro e w1 ⟨rfl, hb_w1⟩
      have hT1 := hT0.on hb_w1
      clear p0 p1 m0 m1 m2 m3 m4 z h1 hT0
      have p0 := hT1.pos.c0
      have p1 := hT1.pos.c1
      have m0 := hT1.mv.c0
      have m1 := hT1.mv.c1
      have m2 := hT1.mv.c2
      have m3 := hT1.mv.c3
      have m4 := hT1.mv.c4
      have z := hT1.mv.z
      go_wp2_with fail
      refine (none_any _).mono ?_
      rintro e w2 ⟨rfl, hb_w2⟩
      have hT2 := hT1.on hb_w2
      clear p0 p1 m0 m1 m2 m3 m4 z
      have p0 := hT2.pos.c0
      have p1 := hT2.pos.c1
      have m0 := hT2.mv.c0
      have m1 := hT2.mv.c1
      have m2 := hT2.mv.c2
      have m3 := hT2.mv.c3
      have m4 := hT2.mv.c4
      have z := hT2.mv.z
      go_wp2
      obtain ⟨hg, hb⟩ := hT2.ret 0 0 0 0 false
      exact ret_mv (r := R.no) (g := w.heap.size + 1) rfl rfl rfl rfl hg ⟨rfl, hb⟩
  · rw [decide_eq_false hp'] at h1
    have hr : (scrR ls l c t y k) = R.no := scrR_no fun hh => hp' hh
    rw [hr]
    obtain ⟨T, hTd⟩ : ∃ T, T = max t 0 := ⟨_, rfl⟩
    have e1 : (if t < 0 then 0 else t) = T := by omega
    have e0 : max t 0 = T := hTd.symm
    clear hTd
    clear hr h hs hX hp'
    go_enter Try.func24, Try.ntmps24
    go_wp2_with fail
    rw [← HX.out]
    refine (h1).mono ?_
    rintro e w1 ⟨rfl, hb_w1⟩
    have hT1 := hT'.on hb_w1
    clear p0 p1 m0 m1 m2 m3 m4 z h1 hT'
    have p0 := hT1.pos.c0
    have p1 := hT1.pos.c1
    have m0 := hT1.mv.c0
    have m1 := hT1.mv.c1
    have m2 := hT1.mv.c2
    have m3 := hT1.mv.c3
    have m4 := hT1.mv.c4
    have z := hT1.mv.z
    go_wp2_with fail
    refine (none_any _).mono ?_
    rintro e w2 ⟨rfl, hb_w2⟩
    have hT2 := hT1.on hb_w2
    clear p0 p1 m0 m1 m2 m3 m4 z
    have p0 := hT2.pos.c0
    have p1 := hT2.pos.c1
    have m0 := hT2.mv.c0
    have m1 := hT2.mv.c1
    have m2 := hT2.mv.c2
    have m3 := hT2.mv.c3
    have m4 := hT2.mv.c4
    have z := hT2.mv.z
    go_wp2
    obtain ⟨hg, hb⟩ := hT2.ret 0 0 0 0 false
    exact ret_mv (r := R.no) (g := w.heap.size + 1) rfl rfl rfl rfl hg ⟨rfl, hb⟩


end Go.Proofs.Ytnedljifhfkjbaa.Vt
