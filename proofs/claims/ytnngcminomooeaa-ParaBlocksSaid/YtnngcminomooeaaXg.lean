/-
  The document's ParaInner, ParaAround.
-/
import Derived.Test.YtnngcminomooeaaXd
import Derived.Test.YtnngcminomooeaaXf
set_option linter.unusedVariables false
set_option linter.unusedSimpArgs false
set_option maxRecDepth 100000
namespace Go.Proofs.Ytnngcminomooeaa.Po
open Go Go.RowKit Go.Proofs.Ytnngcminomooeaa.Vk Go.Proofs.Ytnngcminomooeaa.Str Go.Proofs.Ytnngcminomooeaa.Ln Go.Proofs.Ytnngcminomooeaa.Cl Go.Proofs.Ytnngcminomooeaa.Mv Go.Proofs.Ytnngcminomooeaa.Wo
attribute [local go_sem] Oper.semAt_some

set_option maxHeartbeats 4000000 in
theorem pinner_any (a : Option Addr) (n c' : Nat) (ls : List ByteArray) (l c nn : Int) (w : World) (h : Ss w a n c' ls) (hn6 : n ≤ 1000000) :
    Calls Try.prog 15 #[.slice a n c', .agg #[.int .i64 l, .int .i64 c], .int .i64 nn] w fun e w' => e = .returned (anP (inP ls l c nn)) ∧ Below w.heap.size w w' := by
  have hlen := h.length
  obtain ⟨X, hX⟩ : ∃ X, X = (w.alloc (.cells #[.int .i64 l, .int .i64 c] 36)).alloc (.cells #[.int .i64 0, .int .i64 0, .int .i64 0, .int .i64 0, .int .i64 0] 42) := ⟨_, rfl⟩
  have hT : Vb w X l c := by rw [hX]; exact Vb.new w l c
  have HX := Lib.hid hX
  have p0 := hT.pos.c0
  have p1 := hT.pos.c1
  have hra := on_any a n c' ls l c nn X (SrcV.below h hT.below)
  by_cases hO : On ls l c ∧ 1 ≤ nn
  rotate_left
  · rw [inP_no hO]
    rw [decide_eq_false hO] at hra
    clear hX h hO
    go_enter Try.func15, Try.ntmps15
    go_wp2_with fail
    rw [← HX.out]
    refine hra.mono ?_
    rintro e w1 ⟨rfl, hb1⟩
    have T1 := hT.on hb1
    clear hra p0 p1 hT hb1
    have r0 := T1.rg.c0
    have r1 := T1.rg.c1
    have r2 := T1.rg.c2
    have r3 := T1.rg.c3
    have r4 := T1.rg.c4
    have z := T1.rg.z
    go_wp2
    obtain ⟨hg, hb⟩ := T1.ret 0 0 0 0 0
    exact ret_rb (g := w.heap.size + 1) rfl rfl rfl rfl hg ⟨rfl, hb⟩
  rw [decide_eq_true hO] at hra
  obtain ⟨hO, hn1⟩ := hO
  obtain ⟨i, k, rfl, rfl, hi, hk⟩ := hO.nat
  obtain ⟨m, rfl⟩ : ∃ m : Nat, nn = m := ⟨nn.toNat, by omega⟩
  have hm1 : 1 ≤ m := by omega
  rw [inP_yes hO hm1]
  have hS : Ss X a n c' ls := SrcV.below h hT.below
  obtain ⟨K, hAt⟩ := (bls_rg ls).at hi
  rw [hAt.cn (bls_rg ls)]
  have hKl := hAt.lt
  have hst : (bls ls).length ≤ 1000000 := by have := bls_len ls; omega
  have hLq := fun j (hj : j < (bls ls).length) => bls_at hj
  have hll : ls.length ≤ 1000000 := by omega
  have HA := Lib.hid hAt
  clear hAt hX hO hk hn1
  obtain ⟨L, hL⟩ : ∃ L, L = bls ls := ⟨_, rfl⟩
  have HL := Lib.hid hL
  rw [← hL] at HA hKl hst hLq ⊢
  clear hL
  obtain ⟨D, hD⟩ : ∃ D, D = L.length - K := ⟨_, rfl⟩
  by_cases hm : D < m
  · have hno : inB L K m = none := if_neg (by omega)
    rw [hno]
    have d1 : decide (D < m) = true := decide_eq_true hm
    have HD := Lib.hid hD
    clear hno hD
    go_enter Try.func15, Try.ntmps15
    go_wp2_with fail
    rw [← HX.out]
    refine hra.mono ?_
    rintro e w1 ⟨rfl, hb1⟩
    have T1 := hT.on hb1
    have q0 := T1.pos.c0
    have hS1 := SrcV.below hS hb1
    clear hra p0 p1 hT hb1
    go_wp2_with fail
    refine (blocks15_any _ n c' ls w1 hS1 hn6).mono ?_
    rintro e w2 ⟨ra, N, cc, rfl, hR⟩
    have T2 := T1.on hR.bel
    have hrs : Rs w2 ra N cc L := by rw [HL.out]; exact hR.rs
    have hNl := hrs.length
    have hS2 := SrcV.below hS1 hR.bel
    have q0 := T2.pos.c0
    have q1 := T2.pos.c1
    clear hR T1
    go_wp2_with fail
    refine (find_any ra N cc L i K w2 hrs HA.out (by omega)).mono ?_
    rintro e w' ⟨rfl, rfl⟩
    have hwD : IntKind.i64.wrap ((N : Int) - (K : Int)) = (D : Int) := by have := HD.out; rw [IntKind.wrap_i64]; omega
    clear hNl hrs q0 q1 hS2
    have r0 := T2.rg.c0
    have r1 := T2.rg.c1
    have r2 := T2.rg.c2
    have r3 := T2.rg.c3
    have r4 := T2.rg.c4
    have z := T2.rg.z
    go_wp2
    obtain ⟨hg, hb⟩ := T2.ret 0 0 0 0 0
    exact ret_rb (g := w.heap.size + 1) rfl rfl rfl rfl hg ⟨rfl, hb⟩
  have hyes : inB L K m = some ((L.getD K (0, 0)).1, (L.getD (K + m - 1) (0, 0)).2) := if_pos (by omega)
  rw [hyes]
  have d1 : decide (D < m) = false := decide_eq_false hm
  obtain ⟨E, hE⟩ : ∃ E, E = K + m := ⟨_, rfl⟩
  obtain ⟨M, hM⟩ : ∃ M, M = E - 1 := ⟨_, rfl⟩
  rw [← hE, ← hM]
  clear hyes
  obtain ⟨A, hA⟩ : ∃ A, A = (L.getD K (0, 0)).1 := ⟨_, rfl⟩
  obtain ⟨B, hB⟩ : ∃ B, B = (L.getD M (0, 0)).2 := ⟨_, rfl⟩
  obtain ⟨C, hC⟩ : ∃ C, C = (L.getD M (0, 0)).1 := ⟨_, rfl⟩
  rw [← hA, ← hB]
  dsimp only [anP]
  obtain ⟨P, hP⟩ : ∃ P, P = B - 1 := ⟨_, rfl⟩
  rw [← hP]
  go_enter Try.func15, Try.ntmps15
  go_wp2_with fail
  rw [← HX.out]
  refine hra.mono ?_
  rintro e w1 ⟨rfl, hb1⟩
  have T1 := hT.on hb1
  have q0 := T1.pos.c0
  have hS1 := SrcV.below hS hb1
  clear hra p0 p1 hT hb1
  go_wp2_with fail
  refine (blocks15_any _ n c' ls w1 hS1 hn6).mono ?_
  rintro e w2 ⟨ra, N, cc, rfl, hR⟩
  have T2 := T1.on hR.bel
  have hrs : Rs w2 ra N cc L := by rw [HL.out]; exact hR.rs
  have hNl := hrs.length
  have hS2 := SrcV.below hS1 hR.bel
  have q0 := T2.pos.c0
  have q1 := T2.pos.c1
  clear hR T1
  go_wp2_with fail
  refine (find_any ra N cc L i K w2 hrs HA.out (by omega)).mono ?_
  rintro e w' ⟨rfl, rfl⟩
  have hwD : IntKind.i64.wrap ((N : Int) - (K : Int)) = (D : Int) := by rw [IntKind.wrap_i64]; omega
  have hwE : IntKind.i64.wrap ((K : Int) + (m : Int)) = (E : Int) := by rw [IntKind.wrap_i64]; omega
  have hwM : IntKind.i64.wrap ((E : Int) - 1) = (M : Int) := by rw [IntKind.wrap_i64]; omega
  obtain ⟨g, o, rfl, x0, u0, hnc⟩ := hrs.read K (by omega)
  obtain ⟨g', o', he', y0, y1, _⟩ := hrs.read M (by omega)
  injection he' with he'
  injection he' with e1 e2
  subst e1 e2
  have gA : L.getD K (0, 0) = L[K]'(by omega) := getD_at (by omega)
  have gB : L.getD M (0, 0) = L[M]'(by omega) := getD_at (by omega)
  have hq := hLq M (by omega)
  rw [← gB] at y0 y1 hq
  rw [← gA] at x0
  rw [← hA] at x0
  rw [← hC] at y0
  rw [← hB] at y1
  rw [← hC, ← hB] at hq
  have hwP : IntKind.i64.wrap ((B : Int) - 1) = (P : Int) := by rw [IntKind.wrap_i64]; omega
  have f0 := fun z : Gr w2 => z.cell T2.pos.c0
  have f1 := fun z : Gr w2 => z.cell x0
  have f2 := fun z : Gr w2 => z.cell y1
  have hin := fun z : Gr w2 => whole_any A P z.W
  have b2 : (K : Int) < (N : Int) := by omega
  have b3 : (M : Int) < (N : Int) := by omega
  have HT := Lib.hid T2
  clear q0 q1 x0 u0 y0 y1 hA hB hC gA gB hq hP T2 hrs hS2 hNl hD hE hM hm hKl
  go_upto_region 7 with fail
  refine wp_region_grow_tail 17 (by kernel_rfl) (by kernel_rfl) ?_
  simp only [List.take_succ_cons, List.take_zero, List.drop_succ_cons, List.drop_zero]
  repeat (go_big_quiet_step (first | (go_at_call 29; exact Calls.grow_of (hin _))))
  refine wpQuiet_nil ?_
  rintro V ⟨⟨_, hbV⟩, rfl⟩
  have T3 := HT.out.on hbV
  clear f0 f1 f2 hin hbV
  have r0 := T3.rg.c0
  have r1 := T3.rg.c1
  have r2 := T3.rg.c2
  have r3 := T3.rg.c3
  have r4 := T3.rg.c4
  have z := T3.rg.z
  go_wp2
  obtain ⟨hg, hb⟩ := T3.ret 1 A 0 P 0
  exact ret_rb (g := w.heap.size + 1) rfl rfl rfl rfl hg ⟨rfl, hb⟩

set_option maxHeartbeats 8000000 in
theorem paround_any (a : Option Addr) (n c' : Nat) (ls : List ByteArray) (l c nn : Int) (w : World) (h : Ss w a n c' ls) (hn6 : n ≤ 1000000) :
    Calls Try.prog 17 #[.slice a n c', .agg #[.int .i64 l, .int .i64 c], .int .i64 nn] w fun e w' => e = .returned (anP (arP ls l c nn)) ∧ Below w.heap.size w w' := by
  have hlen := h.length
  obtain ⟨X, hX⟩ : ∃ X, X = (w.alloc (.cells #[.int .i64 l, .int .i64 c] 36)).alloc (.cells #[.int .i64 0, .int .i64 0, .int .i64 0, .int .i64 0, .int .i64 0] 42) := ⟨_, rfl⟩
  have hT : Vb w X l c := by rw [hX]; exact Vb.new w l c
  have HX := Lib.hid hX
  have p0 := hT.pos.c0
  have p1 := hT.pos.c1
  have hra := on_any a n c' ls l c nn X (SrcV.below h hT.below)
  by_cases hO : On ls l c ∧ 1 ≤ nn
  rotate_left
  · rw [arP_no hO]
    rw [decide_eq_false hO] at hra
    clear hX h hO
    go_enter Try.func17, Try.ntmps17
    go_wp2_with fail
    rw [← HX.out]
    refine hra.mono ?_
    rintro e w1 ⟨rfl, hb1⟩
    have T1 := hT.on hb1
    clear hra p0 p1 hT hb1
    have r0 := T1.rg.c0
    have r1 := T1.rg.c1
    have r2 := T1.rg.c2
    have r3 := T1.rg.c3
    have r4 := T1.rg.c4
    have z := T1.rg.z
    go_wp2
    obtain ⟨hg, hb⟩ := T1.ret 0 0 0 0 0
    exact ret_rb (g := w.heap.size + 1) rfl rfl rfl rfl hg ⟨rfl, hb⟩
  rw [decide_eq_true hO] at hra
  obtain ⟨hO, hn1⟩ := hO
  obtain ⟨i, k, rfl, rfl, hi, hk⟩ := hO.nat
  obtain ⟨m, rfl⟩ : ∃ m : Nat, nn = m := ⟨nn.toNat, by omega⟩
  have hm1 : 1 ≤ m := by omega
  rw [arP_yes hO hm1]
  have hS : Ss X a n c' ls := SrcV.below h hT.below
  obtain ⟨K, hAt⟩ := (bls_rg ls).at hi
  rw [hAt.cn (bls_rg ls)]
  have hKl := hAt.lt
  have hst : (bls ls).length ≤ 1000000 := by have := bls_len ls; omega
  have hLq := fun j (hj : j < (bls ls).length) => bls_at hj
  have hll : ls.length ≤ 1000000 := by omega
  have HA := Lib.hid hAt
  clear hAt hX hO hk hn1
  obtain ⟨L, hL⟩ : ∃ L, L = bls ls := ⟨_, rfl⟩
  have HL := Lib.hid hL
  rw [← hL] at HA hKl hst hLq ⊢
  clear hL
  by_cases hm : L.length < m
  · have hno : arB L (em ls i) K m = none := by unfold arB; rw [if_neg (by omega), if_neg (by omega)]
    rw [hno]
    clear hno
    go_enter Try.func17, Try.ntmps17
    go_wp2_with fail
    rw [← HX.out]
    refine hra.mono ?_
    rintro e w1 ⟨rfl, hb1⟩
    have T1 := hT.on hb1
    have q0 := T1.pos.c0
    have hS1 := SrcV.below hS hb1
    have hB1 := Lib.hid hb1
    clear hra p0 p1 hT hb1
    go_wp2_with fail
    refine (blocks15_any _ n c' ls w1 hS1 hn6).mono ?_
    rintro e w2 ⟨ra, N, cc, rfl, hR⟩
    have T2 := T1.on hR.bel
    have hrs : Rs w2 ra N cc L := by rw [HL.out]; exact hR.rs
    have hNl := hrs.length
    have hS2 := SrcV.below hS1 hR.bel
    have HB := Lib.hid (hB1.out.trans (hR.bel.mono hB1.out.size))
    have q0 := T2.pos.c0
    have q1 := T2.pos.c1
    clear hR T1
    go_wp2_with fail
    refine (find_any ra N cc L i K w2 hrs HA.out (by omega)).mono ?_
    rintro e w' ⟨rfl, rfl⟩
    have d1 : decide (N < m) = true := decide_eq_true (by omega)
    clear hNl hrs q0 q1 hS2 hm
    have r0 := T2.rg.c0
    have r1 := T2.rg.c1
    have r2 := T2.rg.c2
    have r3 := T2.rg.c3
    have r4 := T2.rg.c4
    have z := T2.rg.z
    go_wp2
    obtain ⟨hg, hb⟩ := T2.ret 0 0 0 0 0
    exact ret_rb (g := w.heap.size + 1) rfl rfl rfl rfl hg ⟨rfl, hb⟩
  obtain ⟨T, hTT⟩ : ∃ T, T = 2 * m := ⟨_, rfl⟩
  have hwT : IntKind.i64.wrap (2 * (m : Int)) = (T : Int) := by rw [IntKind.wrap_i64]; omega
  obtain ⟨G, hG⟩ : ∃ G, G = K + T := ⟨_, rfl⟩
  have hwG : IntKind.i64.wrap ((K : Int) + (T : Int)) = (G : Int) := by rw [IntKind.wrap_i64]; omega
  obtain ⟨E, hE⟩ : ∃ E, E = G - 1 := ⟨_, rfl⟩
  have hwE : IntKind.i64.wrap ((G : Int) - 1) = (E : Int) := by rw [IntKind.wrap_i64]; omega
  have hv : arB L (em ls i) K m = if G ≤ L.length then some ((L.getD K (0, 0)).1, (L.getD E (0, 0)).2) else if G = L.length + 1 ∧ em ls i = false ∧ 0 < K then some ((L.getD (K - 1) (0, 0)).1, (L.getD (E - 1) (0, 0)).2) else none := by
    unfold arB; rw [show K + 2 * m = G by omega, show G - 2 = E - 1 by omega, show G - 1 = E by omega]
  rw [hv]
  have he := em_empty ls i
  obtain ⟨g0, o0, rfl, hcx, hnc0, _⟩ := hS.read i (by omega)
  rw [← lineAt_get (ls := ls) (k := i) (by omega)] at hcx
  have bi : (i : Int) < (n : Int) := by omega
  have bi2 : i < n := by omega
  generalize lineAt ls i = st at *
  generalize em ls i = EM at *
  clear hv
  by_cases hEN : G ≤ L.length
  · rw [if_pos hEN]
    obtain ⟨A, hA⟩ : ∃ A, A = (L.getD K (0, 0)).1 := ⟨_, rfl⟩
    obtain ⟨B, hB⟩ : ∃ B, B = (L.getD E (0, 0)).2 := ⟨_, rfl⟩
    obtain ⟨C, hC⟩ : ∃ C, C = (L.getD E (0, 0)).1 := ⟨_, rfl⟩
    rw [← hA, ← hB]
    dsimp only [anP]
    obtain ⟨P, hP⟩ : ∃ P, P = B - 1 := ⟨_, rfl⟩
    rw [← hP]
    go_enter Try.func17, Try.ntmps17
    go_wp2_with fail
    rw [← HX.out]
    refine hra.mono ?_
    rintro e w1 ⟨rfl, hb1⟩
    have T1 := hT.on hb1
    have q0 := T1.pos.c0
    have hS1 := SrcV.below hS hb1
    have hB1 := Lib.hid hb1
    clear hra p0 p1 hT hb1
    go_wp2_with fail
    refine (blocks15_any _ n c' ls w1 hS1 hn6).mono ?_
    rintro e w2 ⟨ra, N, cc, rfl, hR⟩
    have T2 := T1.on hR.bel
    have hrs : Rs w2 ra N cc L := by rw [HL.out]; exact hR.rs
    have hNl := hrs.length
    have hS2 := SrcV.below hS1 hR.bel
    have HB := Lib.hid (hB1.out.trans (hR.bel.mono hB1.out.size))
    have q0 := T2.pos.c0
    have q1 := T2.pos.c1
    clear hR T1
    go_wp2_with fail
    refine (find_any ra N cc L i K w2 hrs HA.out (by omega)).mono ?_
    rintro e w' ⟨rfl, rfl⟩
    have d1 : decide (N < m) = false := decide_eq_false (by omega)
    have d2 : decide (E < N) = true := decide_eq_true (by omega)
    obtain ⟨g, o, rfl, x0, u0, hnc⟩ := hrs.read K (by omega)
    obtain ⟨g', o', he', y0, y1, _⟩ := hrs.read E (by omega)
    injection he' with he'
    injection he' with e1 e2
    subst e1 e2
    have gA : L.getD K (0, 0) = L[K]'(by omega) := getD_at (by omega)
    have gB : L.getD E (0, 0) = L[E]'(by omega) := getD_at (by omega)
    have hq := hLq E (by omega)
    rw [← gB] at y0 y1 hq
    rw [← gA] at x0
    rw [← hA] at x0
    rw [← hC] at y0
    rw [← hB] at y1
    rw [← hC, ← hB] at hq
    have hwP : IntKind.i64.wrap ((B : Int) - 1) = (P : Int) := by rw [IntKind.wrap_i64]; omega
    have f0 := fun z : Gr w2 => z.cell T2.pos.c0
    have f1 := fun z : Gr w2 => z.cell x0
    have f2 := fun z : Gr w2 => z.cell y1
    have hin := fun z : Gr w2 => whole_any A P z.W
    have b2 : (K : Int) < (N : Int) := by omega
    have b3 : (E : Int) < (N : Int) := by omega
    have HT := Lib.hid T2
    clear q0 q1 x0 u0 y0 y1 hA hB hC gA gB hq hP T2 hrs hS2 hNl hE hm hTT hEN hG hKl
    go_upto_region 9 with fail
    refine wp_region_grow_tail 14 (by kernel_rfl) (by kernel_rfl) ?_
    simp only [List.take_succ_cons, List.take_zero, List.drop_succ_cons, List.drop_zero]
    repeat (go_big_quiet_step (first | (go_at_call 29; exact Calls.grow_of (hin _))))
    refine wpQuiet_nil ?_
    rintro V ⟨⟨_, hbV⟩, rfl⟩
    have T3 := HT.out.on hbV
    clear f0 f1 f2 hin hbV
    have r0 := T3.rg.c0
    have r1 := T3.rg.c1
    have r2 := T3.rg.c2
    have r3 := T3.rg.c3
    have r4 := T3.rg.c4
    have z := T3.rg.z
    go_wp2
    obtain ⟨hg, hb⟩ := T3.ret 1 A 0 P 0
    exact ret_rb (g := w.heap.size + 1) rfl rfl rfl rfl hg ⟨rfl, hb⟩
  rw [if_neg hEN]
  by_cases hE1 : G = L.length + 1
  rotate_left
  · rw [if_neg (fun hh => hE1 hh.1)]
    go_enter Try.func17, Try.ntmps17
    go_wp2_with fail
    rw [← HX.out]
    refine hra.mono ?_
    rintro e w1 ⟨rfl, hb1⟩
    have T1 := hT.on hb1
    have q0 := T1.pos.c0
    have hS1 := SrcV.below hS hb1
    have hB1 := Lib.hid hb1
    clear hra p0 p1 hT hb1
    go_wp2_with fail
    refine (blocks15_any _ n c' ls w1 hS1 hn6).mono ?_
    rintro e w2 ⟨ra, N, cc, rfl, hR⟩
    have T2 := T1.on hR.bel
    have hrs : Rs w2 ra N cc L := by rw [HL.out]; exact hR.rs
    have hNl := hrs.length
    have hS2 := SrcV.below hS1 hR.bel
    have HB := Lib.hid (hB1.out.trans (hR.bel.mono hB1.out.size))
    have q0 := T2.pos.c0
    have q1 := T2.pos.c1
    clear hR T1
    go_wp2_with fail
    refine (find_any ra N cc L i K w2 hrs HA.out (by omega)).mono ?_
    rintro e w' ⟨rfl, rfl⟩
    have d1 : decide (N < m) = false := decide_eq_false (by omega)
    have d2 : decide (E < N) = false := decide_eq_false (by omega)
    have d3 : ((E : Int) == (N : Int)) = false := by rw [beq_eq_false_iff_ne]; omega
    have d4 : (E == N) = false := by rw [beq_eq_false_iff_ne]; omega
    clear hNl hrs q0 q1 hS2 hm hE1 hEN hE hG hTT hKl
    have r0 := T2.rg.c0
    have r1 := T2.rg.c1
    have r2 := T2.rg.c2
    have r3 := T2.rg.c3
    have r4 := T2.rg.c4
    have z := T2.rg.z
    go_wp2
    obtain ⟨hg, hb⟩ := T2.ret 0 0 0 0 0
    exact ret_rb (g := w.heap.size + 1) rfl rfl rfl rfl hg ⟨rfl, hb⟩
  cases EM
  rotate_left
  · rw [if_neg (fun hh => by cases hh.2.1)]
    go_enter Try.func17, Try.ntmps17
    go_wp2_with fail
    rw [← HX.out]
    refine hra.mono ?_
    rintro e w1 ⟨rfl, hb1⟩
    have T1 := hT.on hb1
    have q0 := T1.pos.c0
    have hS1 := SrcV.below hS hb1
    have hB1 := Lib.hid hb1
    clear hra p0 p1 hT hb1
    go_wp2_with fail
    refine (blocks15_any _ n c' ls w1 hS1 hn6).mono ?_
    rintro e w2 ⟨ra, N, cc, rfl, hR⟩
    have T2 := T1.on hR.bel
    have hrs : Rs w2 ra N cc L := by rw [HL.out]; exact hR.rs
    have hNl := hrs.length
    have hS2 := SrcV.below hS1 hR.bel
    have HB := Lib.hid (hB1.out.trans (hR.bel.mono hB1.out.size))
    have q0 := T2.pos.c0
    have q1 := T2.pos.c1
    clear hR T1
    go_wp2_with fail
    refine (find_any ra N cc L i K w2 hrs HA.out (by omega)).mono ?_
    rintro e w' ⟨rfl, rfl⟩
    have hcx := cell_later HB.out hcx
    have d1 : decide (N < m) = false := decide_eq_false (by omega)
    have d2 : decide (E < N) = false := decide_eq_false (by omega)
    have d3 : ((E : Int) == (N : Int)) = true := by rw [beq_iff_eq]; omega
    have d4 : (E == N) = true := by rw [beq_iff_eq]; omega
    clear hNl hrs q1 hS2 hm hE1 hEN hE hG hTT hKl
    have r0 := T2.rg.c0
    have r1 := T2.rg.c1
    have r2 := T2.rg.c2
    have r3 := T2.rg.c3
    have r4 := T2.rg.c4
    have z := T2.rg.z
    go_wp2
    obtain ⟨hg, hb⟩ := T2.ret 0 0 0 0 0
    exact ret_rb (g := w.heap.size + 1) rfl rfl rfl rfl hg ⟨rfl, hb⟩
  by_cases hK0 : 0 < K
  rotate_left
  · rw [if_neg (fun hh => hK0 hh.2.2)]
    go_enter Try.func17, Try.ntmps17
    go_wp2_with fail
    rw [← HX.out]
    refine hra.mono ?_
    rintro e w1 ⟨rfl, hb1⟩
    have T1 := hT.on hb1
    have q0 := T1.pos.c0
    have hS1 := SrcV.below hS hb1
    have hB1 := Lib.hid hb1
    clear hra p0 p1 hT hb1
    go_wp2_with fail
    refine (blocks15_any _ n c' ls w1 hS1 hn6).mono ?_
    rintro e w2 ⟨ra, N, cc, rfl, hR⟩
    have T2 := T1.on hR.bel
    have hrs : Rs w2 ra N cc L := by rw [HL.out]; exact hR.rs
    have hNl := hrs.length
    have hS2 := SrcV.below hS1 hR.bel
    have HB := Lib.hid (hB1.out.trans (hR.bel.mono hB1.out.size))
    have q0 := T2.pos.c0
    have q1 := T2.pos.c1
    clear hR T1
    go_wp2_with fail
    refine (find_any ra N cc L i K w2 hrs HA.out (by omega)).mono ?_
    rintro e w' ⟨rfl, rfl⟩
    have hcx := cell_later HB.out hcx
    have d1 : decide (N < m) = false := decide_eq_false (by omega)
    have d2 : decide (E < N) = false := decide_eq_false (by omega)
    have d3 : ((E : Int) == (N : Int)) = true := by rw [beq_iff_eq]; omega
    have d4 : (E == N) = true := by rw [beq_iff_eq]; omega
    have d5 : decide (0 < K) = false := decide_eq_false hK0
    have d6 : decide ((0 : Int) < (K : Int)) = false := decide_eq_false (by omega)
    clear hNl hrs q1 hS2 hm hE1 hEN hE hG hTT hKl hK0
    have r0 := T2.rg.c0
    have r1 := T2.rg.c1
    have r2 := T2.rg.c2
    have r3 := T2.rg.c3
    have r4 := T2.rg.c4
    have z := T2.rg.z
    go_wp2
    obtain ⟨hg, hb⟩ := T2.ret 0 0 0 0 0
    exact ret_rb (g := w.heap.size + 1) rfl rfl rfl rfl hg ⟨rfl, hb⟩
  rw [if_pos ⟨hE1, rfl, hK0⟩]
  obtain ⟨F, hF⟩ : ∃ F, F = K - 1 := ⟨_, rfl⟩
  have hwF : IntKind.i64.wrap ((K : Int) - 1) = (F : Int) := by rw [IntKind.wrap_i64]; omega
  obtain ⟨M, hM⟩ : ∃ M, M = E - 1 := ⟨_, rfl⟩
  have hwM : IntKind.i64.wrap ((E : Int) - 1) = (M : Int) := by rw [IntKind.wrap_i64]; omega
  rw [← hF, ← hM]
  obtain ⟨A, hA⟩ : ∃ A, A = (L.getD F (0, 0)).1 := ⟨_, rfl⟩
  obtain ⟨B, hB⟩ : ∃ B, B = (L.getD M (0, 0)).2 := ⟨_, rfl⟩
  obtain ⟨C, hC⟩ : ∃ C, C = (L.getD M (0, 0)).1 := ⟨_, rfl⟩
  rw [← hA, ← hB]
  dsimp only [anP]
  obtain ⟨P, hP⟩ : ∃ P, P = B - 1 := ⟨_, rfl⟩
  rw [← hP]
  go_enter Try.func17, Try.ntmps17
  go_wp2_with fail
  rw [← HX.out]
  refine hra.mono ?_
  rintro e w1 ⟨rfl, hb1⟩
  have T1 := hT.on hb1
  have q0 := T1.pos.c0
  have hS1 := SrcV.below hS hb1
  have hB1 := Lib.hid hb1
  clear hra p0 p1 hT hb1
  go_wp2_with fail
  refine (blocks15_any _ n c' ls w1 hS1 hn6).mono ?_
  rintro e w2 ⟨ra, N, cc, rfl, hR⟩
  have T2 := T1.on hR.bel
  have hrs : Rs w2 ra N cc L := by rw [HL.out]; exact hR.rs
  have hNl := hrs.length
  have hS2 := SrcV.below hS1 hR.bel
  have HB := Lib.hid (hB1.out.trans (hR.bel.mono hB1.out.size))
  have q0 := T2.pos.c0
  have q1 := T2.pos.c1
  clear hR T1
  go_wp2_with fail
  refine (find_any ra N cc L i K w2 hrs HA.out (by omega)).mono ?_
  rintro e w' ⟨rfl, rfl⟩
  have hcx := cell_later HB.out hcx
  have d1 : decide (N < m) = false := decide_eq_false (by omega)
  have d2 : decide (E < N) = false := decide_eq_false (by omega)
  have d3 : ((E : Int) == (N : Int)) = true := by rw [beq_iff_eq]; omega
  have d4 : (E == N) = true := by rw [beq_iff_eq]; omega
  have d5 : decide (0 < K) = true := decide_eq_true hK0
  have d6 : decide ((0 : Int) < (K : Int)) = true := decide_eq_true (by omega)
  obtain ⟨g, o, rfl, x0, u0, hnc⟩ := hrs.read F (by omega)
  obtain ⟨g', o', he', y0, y1, _⟩ := hrs.read M (by omega)
  injection he' with he'
  injection he' with e1 e2
  subst e1 e2
  have gA : L.getD F (0, 0) = L[F]'(by omega) := getD_at (by omega)
  have gB : L.getD M (0, 0) = L[M]'(by omega) := getD_at (by omega)
  have hq := hLq M (by omega)
  rw [← gB] at y0 y1 hq
  rw [← gA] at x0
  rw [← hA] at x0
  rw [← hC] at y0
  rw [← hB] at y1
  rw [← hC, ← hB] at hq
  have hwP : IntKind.i64.wrap ((B : Int) - 1) = (P : Int) := by rw [IntKind.wrap_i64]; omega
  have f0 := fun z : Gr w2 => z.cell T2.pos.c0
  have f1 := fun z : Gr w2 => z.cell x0
  have f2 := fun z : Gr w2 => z.cell y1
  have hin := fun z : Gr w2 => whole_any A P z.W
  have b2 : (F : Int) < (N : Int) := by omega
  have b3 : (M : Int) < (N : Int) := by omega
  have HT := Lib.hid T2
  have e0 := T2.pos.c0
  clear q1 x0 u0 y0 y1 hA hB hC gA gB hq hP T2 hrs hS2 hNl hE hm hTT hEN hG hKl hE1 hF hM hK0
  go_upto_region 11 with fail
  refine wp_region_grow_tail 16 (by kernel_rfl) (by kernel_rfl) ?_
  simp only [List.take_succ_cons, List.take_zero, List.drop_succ_cons, List.drop_zero]
  repeat (go_big_quiet_step (first | (go_at_call 29; exact Calls.grow_of (hin _))))
  refine wpQuiet_nil ?_
  rintro V ⟨⟨_, hbV⟩, rfl⟩
  have T3 := HT.out.on hbV
  clear f0 f1 f2 hin hbV
  have r0 := T3.rg.c0
  have r1 := T3.rg.c1
  have r2 := T3.rg.c2
  have r3 := T3.rg.c3
  have r4 := T3.rg.c4
  have z := T3.rg.z
  go_wp2
  obtain ⟨hg, hb⟩ := T3.ret 1 A 0 P 0
  exact ret_rb (g := w.heap.size + 1) rfl rfl rfl rfl hg ⟨rfl, hb⟩
end Go.Proofs.Ytnngcminomooeaa.Po
