/-
  Package paraobj: covered, Inner, Around.
-/
import Derived.Test.YtnngcminomooeaaXc
import Derived.Test.YtnngcminomooeaaOj
set_option linter.unusedVariables false
set_option linter.unusedSimpArgs false
set_option maxRecDepth 100000
namespace Go.Proofs.Ytnngcminomooeaa.Po
open Go Go.RowKit Go.Proofs.Ytnngcminomooeaa.Vk Go.Proofs.Ytnngcminomooeaa.Str Go.Proofs.Ytnngcminomooeaa.Ln Go.Proofs.Ytnngcminomooeaa.Cl Go.Proofs.Ytnngcminomooeaa.Mv Go.Proofs.Ytnngcminomooeaa.Wo
attribute [local go_sem] Oper.semAt_some

theorem getD_at {L : List RN} {j : Nat} (h : j < L.length) : L.getD j (0, 0) = L[j] := by rw [List.getD_eq_getElem?_getD, List.getElem?_eq_getElem h]; rfl
theorem bls_at {ls : List ByteArray} {j : Nat} (h : j < (bls ls).length) : ((bls ls)[j]).1 < ((bls ls)[j]).2 ∧ ((bls ls)[j]).2 ≤ ls.length := ⟨(bls_rg ls).ne j h, (bls_rg ls).le j h⟩
/-- The answer, if it is lines A to B (without B). -/
def anP : Option RN → Value
  | some (A, B) => .tuple #[rgv 1 A 0 ((B - 1 : Nat) : Int) 0, .bool true]
  | none => .tuple #[rgv 0 0 0 0 0, .bool false]
def inP (ls : List ByteArray) (l c nn : Int) : Option RN := if On ls l c ∧ 1 ≤ nn then inB (bls ls) (cn l.toNat (bls ls)) nn.toNat else none
def arP (ls : List ByteArray) (l c nn : Int) : Option RN := if On ls l c ∧ 1 ≤ nn then arB (bls ls) (em ls l.toNat) (cn l.toNat (bls ls)) nn.toNat else none
section
variable {ls : List ByteArray} {l c nn : Int}
theorem inP_no (h : ¬ (On ls l c ∧ 1 ≤ nn)) : inP ls l c nn = none := if_neg h
theorem arP_no (h : ¬ (On ls l c ∧ 1 ≤ nn)) : arP ls l c nn = none := if_neg h
theorem inP_yes {i k m : Nat} (h : On ls i k) (hm : 1 ≤ m) : inP ls i k m = inB (bls ls) (cn i (bls ls)) m := by
  unfold inP; rw [if_pos ⟨h, by omega⟩]; simp
theorem arP_yes {i k m : Nat} (h : On ls i k) (hm : 1 ≤ m) : arP ls i k m = arB (bls ls) (em ls i) (cn i (bls ls)) m := by
  unfold arP; rw [if_pos ⟨h, by omega⟩]; simp
end
set_option maxHeartbeats 2000000 in
theorem covered_any (A C B : Nat) (g o n c : Nat) (w : World) (hn : 0 < n) (hn6 : n ≤ 1000000) (hB : 1 ≤ B) (hB6 : B ≤ 1000000) (c0 : w.cell? ⟨g, o, none⟩ = some (.int .i64 A)) (c1 : w.cell? ⟨g, o + (n - 1) * 2, none⟩ = some (.int .i64 C)) (c2 : w.cell? ⟨g, o + (n - 1) * 2 + 1, none⟩ = some (.int .i64 B)) :
    Calls Try.prog 26 #[.slice (some ⟨g, o, none⟩) n c] w fun e w' => e = .returned (rgv 1 A 0 ((B - 1 : Nat) : Int) 0) ∧ Below w.heap.size w w' := by
  obtain ⟨M, hM⟩ : ∃ M, M = n - 1 := ⟨_, rfl⟩
  rw [← hM] at c1 c2
  have hw : IntKind.i64.wrap ((n : Int) - 1) = (M : Int) := by rw [IntKind.wrap_i64]; omega
  obtain ⟨E, hE⟩ : ∃ E, E = B - 1 := ⟨_, rfl⟩
  rw [← hE]
  have hwE : IntKind.i64.wrap ((B : Int) - 1) = (E : Int) := by rw [IntKind.wrap_i64]; omega
  have b0 : (M : Int) < (n : Int) := by omega
  have b1 : (0 : Int) < (n : Int) := by omega
  obtain ⟨X0, hX0⟩ : ∃ X, X = w.alloc (.cells #[.int .i64 0, .int .i64 0, .int .i64 0, .int .i64 0, .int .i64 0] 42) := ⟨_, rfl⟩
  have hb0 : Below w.heap.size w X0 := by rw [hX0]; exact (Below.refl _ w).alloc (Nat.le_refl _) _
  have q1 := cell_later hb0 c1
  have q2 := cell_later hb0 c2
  obtain ⟨X, hX⟩ : ∃ X, X = (w.alloc (.cells #[.int .i64 0, .int .i64 0, .int .i64 0, .int .i64 0, .int .i64 0] 42)).alloc (.cells #[.int .i64 C, .int .i64 B] 69) := ⟨_, rfl⟩
  have hr : RgAt X w.heap.size 0 0 0 0 0 := by rw [hX]; exact RgAt.below (RgAt.new _ _ _ _ _ _) ((Below.refl _ _).alloc (Nat.le_refl _) _) (by simp)
  have hb : Below w.heap.size w X := by rw [hX]; exact two_below _ _ _
  have hl : X.heap[w.heap.size + 1]? = some (.cells #[.int .i64 C, .int .i64 B] 69 (0, 0)) := by rw [hX]; exact two_new _ _ _
  have l1 : X.cell? ⟨w.heap.size + 1, 1, none⟩ = some (.int .i64 B) := (cell_of_row X _ 1 _ _ _ hl).trans (by simp)
  have c0 := cell_later hb c0
  have f0 := fun z : Gr X => z.cell c0
  have f1 := fun z : Gr X => z.cell l1
  have HX := Lib.hid hX
  have HX0 := Lib.hid hX0
  have HR := Lib.hid (And.intro hr hb)
  have HM := Lib.hid (And.intro hM hE)
  clear hX hr hb c0 c1 c2 hM hE l1 hl hX0 hb0
  go_enter Try.func26, Try.ntmps26
  go_upto_region 1 with fail
  rw [← HX0.out]
  go_upto_region 2 with fail
  rw [HX0.out, ← HX.out]
  refine wp_region_grow_tail 10 (by kernel_rfl) (by kernel_rfl) ?_
  simp only [List.take_succ_cons, List.take_zero, List.drop_succ_cons, List.drop_zero]
  repeat (go_big_quiet_step (fail))
  refine wpQuiet_nil ?_
  rintro V ⟨⟨_, hbV⟩, rfl⟩
  have hr := HR.out.1.below hbV HR.out.1.lt
  have hb := HR.out.2.trans (hbV.mono HR.out.2.size)
  have r0 := hr.c0
  have r1 := hr.c1
  have r2 := hr.c2
  have r3 := hr.c3
  have r4 := hr.c4
  have z := hr.z
  have HE := Lib.hid (And.intro (hr.put 1 A 0 E 0) (putR_below hb (g := w.heap.size) (by omega) 1 A 0 E 0))
  clear f0 f1 hr hb hbV
  go_wp2
  exact bodyPost_ret (results_cell_row (P := Try.prog) rfl _ _ w.heap.size _ #[.int .i64 1, .int .i64 A, .int .i64 0, .int .i64 E, .int .i64 0] _ _ rfl HE.out.1 Try.underlying42 rfl (by kernel_rfl)) rfl ⟨rfl, HE.out.2⟩

set_option maxHeartbeats 4000000 in
theorem inner_any (a : Option Addr) (n c' : Nat) (ls : List ByteArray) (l c nn : Int) (w : World) (h : Ss w a n c' ls) (hs : ∀ s ∈ ls, s.size ≤ 140737488355328) (hn6 : n ≤ 1000000) :
    Calls Try.prog 14 #[.slice a n c', .agg #[.int .i64 l, .int .i64 c], .int .i64 nn] w fun e w' => e = .returned (anP (inP ls l c nn)) ∧ Below w.heap.size w w' := by
  have hlen := h.length
  obtain ⟨X, hX⟩ : ∃ X, X = (w.alloc (.cells #[.int .i64 l, .int .i64 c] 36)).alloc (.cells #[.int .i64 0, .int .i64 0, .int .i64 0, .int .i64 0, .int .i64 0] 42) := ⟨_, rfl⟩
  have hT : Vb w X l c := by rw [hX]; exact Vb.new w l c
  have HX := Lib.hid hX
  have p0 := hT.pos.c0
  have p1 := hT.pos.c1
  by_cases hO : On ls l c
  rotate_left
  · have hra := blocksAt_no a n c' ls l c X (SrcV.below h hT.below) hs hO
    rw [inP_no (fun hh => hO hh.1)]
    clear hX h hO
    by_cases hn1 : nn < 1
    · have d1 : decide (nn < 1) = true := decide_eq_true hn1
      go_enter Try.func14, Try.ntmps14
      go_wp2_with fail
      rw [← HX.out]
      refine hra.mono ?_
      rintro e w1 ⟨rfl, hb1⟩
      have T1 := hT.on hb1
      clear hra p0 p1 hT hb1
      have r0 := T1.rg.c0
      have r1 := T1.rg.c1
      have r2 := T1.rg.c2
      have r3 := T1.rg.c3
      have r4 := T1.rg.c4
      have z := T1.rg.z
      go_wp2
      obtain ⟨hg, hb⟩ := T1.ret 0 0 0 0 0
      exact ret_rb (g := w.heap.size + 1) rfl rfl rfl rfl hg ⟨rfl, hb⟩
    · have d1 : decide (nn < 1) = false := decide_eq_false hn1
      have d2 : decide (0 < nn) = true := decide_eq_true (by omega)
      go_enter Try.func14, Try.ntmps14
      go_wp2_with fail
      rw [← HX.out]
      refine hra.mono ?_
      rintro e w1 ⟨rfl, hb1⟩
      have T1 := hT.on hb1
      clear hra p0 p1 hT hb1
      have r0 := T1.rg.c0
      have r1 := T1.rg.c1
      have r2 := T1.rg.c2
      have r3 := T1.rg.c3
      have r4 := T1.rg.c4
      have z := T1.rg.z
      go_wp2
      obtain ⟨hg, hb⟩ := T1.ret 0 0 0 0 0
      exact ret_rb (g := w.heap.size + 1) rfl rfl rfl rfl hg ⟨rfl, hb⟩
  obtain ⟨i, k, rfl, rfl, hi, hk⟩ := hO.nat
  have hra := blocksAt_yes a n c' ls i k X (SrcV.below h hT.below) hs hn6 hO
  have hcle := cn_le (c := i) (bls ls)
  have hst : (bls ls).length ≤ 1000000 := by have := bls_len ls; omega
  have hLq := fun j (hj : j < (bls ls).length) => bls_at hj
  have hyes := fun (m : Nat) (hm : 1 ≤ m) => inP_yes hO hm
  have hll : ls.length ≤ 1000000 := by omega
  generalize bls ls = L at *
  generalize cn i L = K at *
  by_cases hn1 : nn < 1
  · rw [inP_no (fun hh => by omega)]
    have d0 : decide (nn < 1) = true := decide_eq_true hn1
    clear hX h hO hyes hk
    go_enter Try.func14, Try.ntmps14
    go_wp2_with fail
    rw [← HX.out]
    refine hra.mono ?_
    rintro e w1 ⟨ra, N, cc, rfl, hw, hb1⟩
    have T1 := hT.on hb1
    clear hra p0 p1 hT hb1 hw
    have r0 := T1.rg.c0
    have r1 := T1.rg.c1
    have r2 := T1.rg.c2
    have r3 := T1.rg.c3
    have r4 := T1.rg.c4
    have z := T1.rg.z
    go_wp2
    obtain ⟨hg, hb⟩ := T1.ret 0 0 0 0 0
    exact ret_rb (g := w.heap.size + 1) rfl rfl rfl rfl hg ⟨rfl, hb⟩
  obtain ⟨m, rfl⟩ : ∃ m : Nat, nn = m := ⟨nn.toNat, by omega⟩
  rw [hyes m (by omega)]
  clear hyes
  have hm1 : 1 ≤ m := by omega
  have d0 : decide ((m : Int) < 1) = false := decide_eq_false hn1
  have d00 : decide (m < 1) = false := decide_eq_false (by omega)
  obtain ⟨D, hD⟩ : ∃ D, D = L.length - K := ⟨_, rfl⟩
  by_cases hm : D < m
  · have hno : inB L K m = none := if_neg (by omega)
    rw [hno]
    have d1 : decide (D < m) = true := decide_eq_true hm
    have HD := Lib.hid hD
    clear hX h hO hno hk hD
    go_enter Try.func14, Try.ntmps14
    go_wp2_with fail
    rw [← HX.out]
    refine hra.mono ?_
    rintro e w1 ⟨ra, N, cc, rfl, hw, hb1⟩
    have hwl := hw.length
    have hwD : IntKind.i64.wrap ((N : Int) - (K : Int)) = (D : Int) := by have := HD.out; rw [IntKind.wrap_i64]; omega
    have T1 := hT.on hb1
    clear hra p0 p1 hT hb1 hwl hw
    have r0 := T1.rg.c0
    have r1 := T1.rg.c1
    have r2 := T1.rg.c2
    have r3 := T1.rg.c3
    have r4 := T1.rg.c4
    have z := T1.rg.z
    go_wp2
    obtain ⟨hg, hb⟩ := T1.ret 0 0 0 0 0
    exact ret_rb (g := w.heap.size + 1) rfl rfl rfl rfl hg ⟨rfl, hb⟩
  have hyes : inB L K m = some ((L.getD K (0, 0)).1, (L.getD (K + m - 1) (0, 0)).2) := if_pos (by omega)
  rw [hyes]
  have d1 : decide (D < m) = false := decide_eq_false hm
  obtain ⟨E, hE⟩ : ∃ E, E = K + m := ⟨_, rfl⟩
  rw [← hE]
  obtain ⟨A, hA⟩ : ∃ A, A = (L.getD K (0, 0)).1 := ⟨_, rfl⟩
  obtain ⟨B, hB⟩ : ∃ B, B = (L.getD (E - 1) (0, 0)).2 := ⟨_, rfl⟩
  obtain ⟨C, hC⟩ : ∃ C, C = (L.getD (E - 1) (0, 0)).1 := ⟨_, rfl⟩
  rw [← hA, ← hB]
  dsimp only [anP]
  clear hX h hO hyes hk
  go_enter Try.func14, Try.ntmps14
  go_wp2_with fail
  rw [← HX.out]
  refine hra.mono ?_
  rintro e w1 ⟨ra, N, cc, rfl, hw, hb1⟩
  have hwl := hw.length
  have hwD : IntKind.i64.wrap ((N : Int) - (K : Int)) = (D : Int) := by rw [IntKind.wrap_i64]; omega
  have hwE : IntKind.i64.wrap ((K : Int) + (m : Int)) = (E : Int) := by rw [IntKind.wrap_i64]; omega
  clear hra p0 p1
  obtain ⟨g, o, rfl, x0, u0, hnc⟩ := hw.read K (by omega)
  obtain ⟨g', o', he', y0, y1, _⟩ := hw.read (E - 1) (by omega)
  injection he' with he'
  injection he' with e1 e2
  subst e1 e2
  have gA : L.getD K (0, 0) = L[K]'(by omega) := getD_at (by omega)
  have gB : L.getD (E - 1) (0, 0) = L[(E - 1)]'(by omega) := getD_at (by omega)
  have hq := hLq (E - 1) (by omega)
  rw [← gB] at y0 y1 hq
  rw [← gA] at x0
  rw [← hA] at x0
  rw [← hC] at y0
  rw [← hB] at y1
  rw [← hC, ← hB] at hq
  have hEF : E - K - 1 + K = E - 1 := by omega
  have y0 : w1.cell? ⟨g, o + K * 2 + (E - K - 1) * 2, none⟩ = some (.int .i64 C) := by rw [← y0]; congr 2; omega
  have y1 : w1.cell? ⟨g, o + K * 2 + (E - K - 1) * 2 + 1, none⟩ = some (.int .i64 B) := by rw [← y1]; congr 2; omega
  have hcv := covered_any A C B g (o + K * 2) (E - K) (cc - K) w1 (by omega) (by omega) (by omega) (by omega) x0 y0 y1
  have b1 : (K : Int) ≤ (E : Int) := by omega
  have b2 : (E : Int) ≤ (N : Int) := by omega
  have b3 : (E : Int) ≤ (cc : Int) := by omega
  have b4 : K ≤ E := by omega
  have b8 : ¬ cc = K := by omega
  have b5 : E ≤ N := by omega
  have b6 : E ≤ cc := by omega
  obtain ⟨Q, hQ⟩ : ∃ Q, Q = E - K := ⟨_, rfl⟩
  rw [← hQ] at hcv
  have b7 : E - K = Q := hQ.symm
  have HT := Lib.hid (hT.on hb1)
  clear x0 u0 y0 y1 hEF hA hB hC gA gB hq hQ hb1 hT hw hwl hD hE hm
  go_wp2_with fail
  refine hcv.mono ?_
  rintro e V ⟨rfl, hbV⟩
  have T2 := HT.out.on hbV
  clear hcv hbV
  have r0 := T2.rg.c0
  have r1 := T2.rg.c1
  have r2 := T2.rg.c2
  have r3 := T2.rg.c3
  have r4 := T2.rg.c4
  have z := T2.rg.z
  go_wp2
  obtain ⟨hg, hb⟩ := T2.ret 1 A 0 ((B - 1 : Nat) : Int) 0
  exact ret_rb (g := w.heap.size + 1) rfl rfl rfl rfl hg ⟨rfl, hb⟩

set_option maxHeartbeats 8000000 in
theorem around_any (a : Option Addr) (n c' : Nat) (ls : List ByteArray) (l c nn : Int) (w : World) (h : Ss w a n c' ls) (hs : ∀ s ∈ ls, s.size ≤ 140737488355328) (hn6 : n ≤ 1000000) :
    Calls Try.prog 16 #[.slice a n c', .agg #[.int .i64 l, .int .i64 c], .int .i64 nn] w fun e w' => e = .returned (anP (arP ls l c nn)) ∧ Below w.heap.size w w' := by
  have hlen := h.length
  obtain ⟨X, hX⟩ : ∃ X, X = (w.alloc (.cells #[.int .i64 l, .int .i64 c] 36)).alloc (.cells #[.int .i64 0, .int .i64 0, .int .i64 0, .int .i64 0, .int .i64 0] 42) := ⟨_, rfl⟩
  have hT : Vb w X l c := by rw [hX]; exact Vb.new w l c
  have HX := Lib.hid hX
  have p0 := hT.pos.c0
  have p1 := hT.pos.c1
  by_cases hO : On ls l c
  rotate_left
  · have hra := blocksAt_no a n c' ls l c X (SrcV.below h hT.below) hs hO
    rw [arP_no (fun hh => hO hh.1)]
    clear hX h hO
    by_cases hn1 : nn < 1
    · have d1 : decide (nn < 1) = true := decide_eq_true hn1
      go_enter Try.func16, Try.ntmps16
      go_wp2_with fail
      rw [← HX.out]
      refine hra.mono ?_
      rintro e w1 ⟨rfl, hb1⟩
      have T1 := hT.on hb1
      clear hra p0 p1 hT hb1
      have r0 := T1.rg.c0
      have r1 := T1.rg.c1
      have r2 := T1.rg.c2
      have r3 := T1.rg.c3
      have r4 := T1.rg.c4
      have z := T1.rg.z
      go_wp2
      obtain ⟨hg, hb⟩ := T1.ret 0 0 0 0 0
      exact ret_rb (g := w.heap.size + 1) rfl rfl rfl rfl hg ⟨rfl, hb⟩
    · have d1 : decide (nn < 1) = false := decide_eq_false hn1
      have d2 : decide (0 < nn) = true := decide_eq_true (by omega)
      go_enter Try.func16, Try.ntmps16
      go_wp2_with fail
      rw [← HX.out]
      refine hra.mono ?_
      rintro e w1 ⟨rfl, hb1⟩
      have T1 := hT.on hb1
      clear hra p0 p1 hT hb1
      have r0 := T1.rg.c0
      have r1 := T1.rg.c1
      have r2 := T1.rg.c2
      have r3 := T1.rg.c3
      have r4 := T1.rg.c4
      have z := T1.rg.z
      go_wp2
      obtain ⟨hg, hb⟩ := T1.ret 0 0 0 0 0
      exact ret_rb (g := w.heap.size + 1) rfl rfl rfl rfl hg ⟨rfl, hb⟩
  obtain ⟨i, k, rfl, rfl, hi, hk⟩ := hO.nat
  have hra := blocksAt_yes a n c' ls i k X (SrcV.below h hT.below) hs hn6 hO
  have hcle := cn_le (c := i) (bls ls)
  have hst : (bls ls).length ≤ 1000000 := by have := bls_len ls; omega
  have hLq := fun j (hj : j < (bls ls).length) => bls_at hj
  have hyes := fun (m : Nat) (hm : 1 ≤ m) => arP_yes hO hm
  have hll : ls.length ≤ 1000000 := by omega
  generalize bls ls = L at *
  generalize cn i L = K at *
  by_cases hn1 : nn < 1
  · rw [arP_no (fun hh => by omega)]
    have d0 : decide (nn < 1) = true := decide_eq_true hn1
    clear hX h hO hyes hk
    go_enter Try.func16, Try.ntmps16
    go_wp2_with fail
    rw [← HX.out]
    refine hra.mono ?_
    rintro e w1 ⟨ra, N, cc, rfl, hw, hb1⟩
    have T1 := hT.on hb1
    clear hra p0 p1 hT hb1 hw
    have r0 := T1.rg.c0
    have r1 := T1.rg.c1
    have r2 := T1.rg.c2
    have r3 := T1.rg.c3
    have r4 := T1.rg.c4
    have z := T1.rg.z
    go_wp2
    obtain ⟨hg, hb⟩ := T1.ret 0 0 0 0 0
    exact ret_rb (g := w.heap.size + 1) rfl rfl rfl rfl hg ⟨rfl, hb⟩
  obtain ⟨m, rfl⟩ : ∃ m : Nat, nn = m := ⟨nn.toNat, by omega⟩
  rw [hyes m (by omega)]
  clear hyes
  have hm1 : 1 ≤ m := by omega
  have d0 : decide ((m : Int) < 1) = false := decide_eq_false hn1
  have d00 : decide (m < 1) = false := decide_eq_false (by omega)
  by_cases hm : L.length < m
  · have hno : arB L (em ls i) K m = none := by unfold arB; rw [if_neg (by omega), if_neg (by omega)]
    rw [hno]
    clear hX h hO hno hk
    go_enter Try.func16, Try.ntmps16
    go_wp2_with fail
    rw [← HX.out]
    refine hra.mono ?_
    rintro e w1 ⟨ra, N, cc, rfl, hw, hb1⟩
    have hwl := hw.length
    have d1 : decide (N < m) = true := decide_eq_true (by omega)
    have T1 := hT.on hb1
    clear hra p0 p1 hT hb1 hwl hw
    have r0 := T1.rg.c0
    have r1 := T1.rg.c1
    have r2 := T1.rg.c2
    have r3 := T1.rg.c3
    have r4 := T1.rg.c4
    have z := T1.rg.z
    go_wp2
    obtain ⟨hg, hb⟩ := T1.ret 0 0 0 0 0
    exact ret_rb (g := w.heap.size + 1) rfl rfl rfl rfl hg ⟨rfl, hb⟩
  obtain ⟨T, hTT⟩ : ∃ T, T = 2 * m := ⟨_, rfl⟩
  have hwT : IntKind.i64.wrap (2 * (m : Int)) = (T : Int) := by rw [IntKind.wrap_i64]; omega
  obtain ⟨E, hE⟩ : ∃ E, E = K + T := ⟨_, rfl⟩
  have hwE : IntKind.i64.wrap ((K : Int) + (T : Int)) = (E : Int) := by rw [IntKind.wrap_i64]; omega
  have hv : arB L (em ls i) K m = if E ≤ L.length then some ((L.getD K (0, 0)).1, (L.getD (E - 1) (0, 0)).2) else if E = L.length + 1 ∧ em ls i = false ∧ 0 < K then some ((L.getD (K - 1) (0, 0)).1, (L.getD (E - 2) (0, 0)).2) else none := by
    unfold arB; rw [show K + 2 * m = E by omega]
  rw [hv]
  have he := em_empty ls i
  obtain ⟨g0, o0, rfl, hcx, hnc0, _⟩ := h.read i (by omega)
  rw [← lineAt_get (ls := ls) (k := i) (by omega)] at hcx
  have hcx := cell_later hT.below hcx
  have bi : (i : Int) < (n : Int) := by omega
  have bi2 : i < n := by omega
  generalize lineAt ls i = st at *
  generalize em ls i = EM at *
  clear hX h hO hv hk
  by_cases hEN : E ≤ L.length
  · rw [if_pos hEN]
    obtain ⟨A, hA⟩ : ∃ A, A = (L.getD K (0, 0)).1 := ⟨_, rfl⟩
    obtain ⟨B, hB⟩ : ∃ B, B = (L.getD (E - 1) (0, 0)).2 := ⟨_, rfl⟩
    obtain ⟨C, hC⟩ : ∃ C, C = (L.getD (E - 1) (0, 0)).1 := ⟨_, rfl⟩
    rw [← hA, ← hB]
    dsimp only [anP]
    go_enter Try.func16, Try.ntmps16
    go_wp2_with fail
    rw [← HX.out]
    refine hra.mono ?_
    rintro e w1 ⟨ra, N, cc, rfl, hw, hb1⟩
    have hwl := hw.length
    have d1 : decide (N < m) = false := decide_eq_false (by omega)
    obtain ⟨N1, hN1⟩ : ∃ N1, N1 = N + 1 := ⟨_, rfl⟩
    have hwN : IntKind.i64.wrap ((N : Int) + 1) = (N1 : Int) := by rw [IntKind.wrap_i64]; omega
    have d2 : ((E : Int) == (N1 : Int)) = false := by rw [beq_eq_false_iff_ne]; omega
    have d3 : (E == N1) = false := by rw [beq_eq_false_iff_ne]; omega
    have d4 : decide (N < E) = false := decide_eq_false (by omega)
    have d5 : decide ((K : Int) < 0) = false := decide_eq_false (by omega)
    clear hra p0 p1
    obtain ⟨g, o, rfl, x0, u0, hnc⟩ := hw.read K (by omega)
    obtain ⟨g', o', he', y0, y1, _⟩ := hw.read (E - 1) (by omega)
    injection he' with he'
    injection he' with e1 e2
    subst e1 e2
    have gA : L.getD K (0, 0) = L[K]'(by omega) := getD_at (by omega)
    have gB : L.getD (E - 1) (0, 0) = L[(E - 1)]'(by omega) := getD_at (by omega)
    have hq := hLq (E - 1) (by omega)
    rw [← gB] at y0 y1 hq
    rw [← gA] at x0
    rw [← hA] at x0
    rw [← hC] at y0
    rw [← hB] at y1
    rw [← hC, ← hB] at hq
    have hEF : E - K - 1 + K = E - 1 := by omega
    have y0 : w1.cell? ⟨g, o + K * 2 + (E - K - 1) * 2, none⟩ = some (.int .i64 C) := by rw [← y0]; congr 2; omega
    have y1 : w1.cell? ⟨g, o + K * 2 + (E - K - 1) * 2 + 1, none⟩ = some (.int .i64 B) := by rw [← y1]; congr 2; omega
    have hcv := covered_any A C B g (o + K * 2) (E - K) (cc - K) w1 (by omega) (by omega) (by omega) (by omega) x0 y0 y1
    have b1 : (K : Int) ≤ (E : Int) := by omega
    have b2 : (E : Int) ≤ (N : Int) := by omega
    have b3 : (E : Int) ≤ (cc : Int) := by omega
    have b4 : K ≤ E := by omega
    have b8 : ¬ cc = K := by omega
    have b5 : E ≤ N := by omega
    have b6 : E ≤ cc := by omega
    obtain ⟨Q, hQ⟩ : ∃ Q, Q = E - K := ⟨_, rfl⟩
    rw [← hQ] at hcv
    have b7 : E - K = Q := hQ.symm
    have HT := Lib.hid (hT.on hb1)
    clear x0 u0 y0 y1 hEF hA hB hC gA gB hq hQ hb1 hT hw hwl hE hm hTT hEN hN1
    go_wp2_with fail
    refine hcv.mono ?_
    rintro e V ⟨rfl, hbV⟩
    have T2 := HT.out.on hbV
    clear hcv hbV
    have r0 := T2.rg.c0
    have r1 := T2.rg.c1
    have r2 := T2.rg.c2
    have r3 := T2.rg.c3
    have r4 := T2.rg.c4
    have z := T2.rg.z
    go_wp2
    obtain ⟨hg, hb⟩ := T2.ret 1 A 0 ((B - 1 : Nat) : Int) 0
    exact ret_rb (g := w.heap.size + 1) rfl rfl rfl rfl hg ⟨rfl, hb⟩
  rw [if_neg hEN]
  by_cases hE1 : E = L.length + 1
  rotate_left
  · rw [if_neg (fun hh => hE1 hh.1)]
    go_enter Try.func16, Try.ntmps16
    go_wp2_with fail
    rw [← HX.out]
    refine hra.mono ?_
    rintro e w1 ⟨ra, N, cc, rfl, hw, hb1⟩
    have hwl := hw.length
    have d1 : decide (N < m) = false := decide_eq_false (by omega)
    obtain ⟨N1, hN1⟩ : ∃ N1, N1 = N + 1 := ⟨_, rfl⟩
    have hwN : IntKind.i64.wrap ((N : Int) + 1) = (N1 : Int) := by rw [IntKind.wrap_i64]; omega
    have d2 : ((E : Int) == (N1 : Int)) = false := by rw [beq_eq_false_iff_ne]; omega
    have d3 : (E == N1) = false := by rw [beq_eq_false_iff_ne]; omega
    have d4 : decide (N < E) = true := decide_eq_true (by omega)
    have d5 : decide ((K : Int) < 0) = false := decide_eq_false (by omega)
    have T1 := hT.on hb1
    clear hra p0 p1 hT hb1 hwl hw hN1 hTT hE hm
    have r0 := T1.rg.c0
    have r1 := T1.rg.c1
    have r2 := T1.rg.c2
    have r3 := T1.rg.c3
    have r4 := T1.rg.c4
    have z := T1.rg.z
    go_wp2
    obtain ⟨hg, hb⟩ := T1.ret 0 0 0 0 0
    exact ret_rb (g := w.heap.size + 1) rfl rfl rfl rfl hg ⟨rfl, hb⟩
  cases EM
  rotate_left
  · rw [if_neg (fun hh => by cases hh.2.1)]
    go_enter Try.func16, Try.ntmps16
    go_wp2_with fail
    rw [← HX.out]
    refine hra.mono ?_
    rintro e w1 ⟨ra, N, cc, rfl, hw, hb1⟩
    have hwl := hw.length
    have hcx := cell_later hb1 hcx
    have d1 : decide (N < m) = false := decide_eq_false (by omega)
    obtain ⟨N1, hN1⟩ : ∃ N1, N1 = N + 1 := ⟨_, rfl⟩
    have hwN : IntKind.i64.wrap ((N : Int) + 1) = (N1 : Int) := by rw [IntKind.wrap_i64]; omega
    have d2 : ((E : Int) == (N1 : Int)) = true := by rw [beq_iff_eq]; omega
    have d3 : (E == N1) = true := by rw [beq_iff_eq]; omega
    have d6 : decide (N < N1) = true := decide_eq_true (by omega)
    have d4 : decide (N < E) = true := decide_eq_true (by omega)
    have d5 : decide ((K : Int) < 0) = false := decide_eq_false (by omega)
    have T1 := hT.on hb1
    have p0 := T1.pos.c0
    clear hra p1 hT hb1 hwl hw hN1 hTT hE hm hE1 hEN
    have r0 := T1.rg.c0
    have r1 := T1.rg.c1
    have r2 := T1.rg.c2
    have r3 := T1.rg.c3
    have r4 := T1.rg.c4
    have z := T1.rg.z
    go_wp2
    obtain ⟨hg, hb⟩ := T1.ret 0 0 0 0 0
    exact ret_rb (g := w.heap.size + 1) rfl rfl rfl rfl hg ⟨rfl, hb⟩
  by_cases hK0 : 0 < K
  rotate_left
  · rw [if_neg (fun hh => hK0 hh.2.2)]
    have hwK : IntKind.i64.wrap ((K : Int) - 1) = -1 := by rw [IntKind.wrap_i64]; omega
    go_enter Try.func16, Try.ntmps16
    go_wp2_with fail
    rw [← HX.out]
    refine hra.mono ?_
    rintro e w1 ⟨ra, N, cc, rfl, hw, hb1⟩
    have hwl := hw.length
    have hcx := cell_later hb1 hcx
    have d1 : decide (N < m) = false := decide_eq_false (by omega)
    obtain ⟨N1, hN1⟩ : ∃ N1, N1 = N + 1 := ⟨_, rfl⟩
    have hwN : IntKind.i64.wrap ((N : Int) + 1) = (N1 : Int) := by rw [IntKind.wrap_i64]; omega
    have d2 : ((E : Int) == (N1 : Int)) = true := by rw [beq_iff_eq]; omega
    have d3 : (E == N1) = true := by rw [beq_iff_eq]; omega
    have d6 : decide (N < N1) = true := decide_eq_true (by omega)
    have T1 := hT.on hb1
    have p0 := T1.pos.c0
    clear hra p1 hT hb1 hwl hw hN1 hTT hE hm hE1 hEN hK0
    have r0 := T1.rg.c0
    have r1 := T1.rg.c1
    have r2 := T1.rg.c2
    have r3 := T1.rg.c3
    have r4 := T1.rg.c4
    have z := T1.rg.z
    go_wp2
    obtain ⟨hg, hb⟩ := T1.ret 0 0 0 0 0
    exact ret_rb (g := w.heap.size + 1) rfl rfl rfl rfl hg ⟨rfl, hb⟩
  rw [if_pos ⟨hE1, rfl, hK0⟩]
  obtain ⟨F, hF⟩ : ∃ F, F = K - 1 := ⟨_, rfl⟩
  have hwF : IntKind.i64.wrap ((K : Int) - 1) = (F : Int) := by rw [IntKind.wrap_i64]; omega
  obtain ⟨G, hG⟩ : ∃ G, G = F + T := ⟨_, rfl⟩
  have hwG : IntKind.i64.wrap ((F : Int) + (T : Int)) = (G : Int) := by rw [IntKind.wrap_i64]; omega
  rw [← hF, show E - 2 = G - 1 by omega]
  obtain ⟨A, hA⟩ : ∃ A, A = (L.getD F (0, 0)).1 := ⟨_, rfl⟩
  obtain ⟨B, hB⟩ : ∃ B, B = (L.getD (G - 1) (0, 0)).2 := ⟨_, rfl⟩
  obtain ⟨C, hC⟩ : ∃ C, C = (L.getD (G - 1) (0, 0)).1 := ⟨_, rfl⟩
  rw [← hA, ← hB]
  dsimp only [anP]
  go_enter Try.func16, Try.ntmps16
  go_wp2_with fail
  rw [← HX.out]
  refine hra.mono ?_
  rintro e w1 ⟨ra, N, cc, rfl, hw, hb1⟩
  have hwl := hw.length
  have hcx := cell_later hb1 hcx
  have d1 : decide (N < m) = false := decide_eq_false (by omega)
  obtain ⟨N1, hN1⟩ : ∃ N1, N1 = N + 1 := ⟨_, rfl⟩
  have hwN : IntKind.i64.wrap ((N : Int) + 1) = (N1 : Int) := by rw [IntKind.wrap_i64]; omega
  have d2 : ((E : Int) == (N1 : Int)) = true := by rw [beq_iff_eq]; omega
  have d3 : (E == N1) = true := by rw [beq_iff_eq]; omega
  have d4 : decide (N < G) = false := decide_eq_false (by omega)
  have d5 : decide ((F : Int) < 0) = false := decide_eq_false (by omega)
  have p0 := (hT.on hb1).pos.c0
  clear hra p1
  obtain ⟨g, o, rfl, x0, u0, hnc⟩ := hw.read F (by omega)
  obtain ⟨g', o', he', y0, y1, _⟩ := hw.read (G - 1) (by omega)
  injection he' with he'
  injection he' with e1 e2
  subst e1 e2
  have gA : L.getD F (0, 0) = L[F]'(by omega) := getD_at (by omega)
  have gB : L.getD (G - 1) (0, 0) = L[(G - 1)]'(by omega) := getD_at (by omega)
  have hq := hLq (G - 1) (by omega)
  rw [← gB] at y0 y1 hq
  rw [← gA] at x0
  rw [← hA] at x0
  rw [← hC] at y0
  rw [← hB] at y1
  rw [← hC, ← hB] at hq
  have hEF : G - F - 1 + F = G - 1 := by omega
  have y0 : w1.cell? ⟨g, o + F * 2 + (G - F - 1) * 2, none⟩ = some (.int .i64 C) := by rw [← y0]; congr 2; omega
  have y1 : w1.cell? ⟨g, o + F * 2 + (G - F - 1) * 2 + 1, none⟩ = some (.int .i64 B) := by rw [← y1]; congr 2; omega
  have hcv := covered_any A C B g (o + F * 2) (G - F) (cc - F) w1 (by omega) (by omega) (by omega) (by omega) x0 y0 y1
  have b1 : (F : Int) ≤ (G : Int) := by omega
  have b2 : (G : Int) ≤ (N : Int) := by omega
  have b3 : (G : Int) ≤ (cc : Int) := by omega
  have b4 : F ≤ G := by omega
  have b8 : ¬ cc = F := by omega
  have b5 : G ≤ N := by omega
  have b6 : G ≤ cc := by omega
  obtain ⟨Q, hQ⟩ : ∃ Q, Q = G - F := ⟨_, rfl⟩
  rw [← hQ] at hcv
  have b7 : G - F = Q := hQ.symm
  have HT := Lib.hid (hT.on hb1)
  clear x0 u0 y0 y1 hEF hA hB hC gA gB hq hQ hb1 hT hw hwl hE hm hTT hN1 hF hG hE1 hEN hK0
  go_wp2_with fail
  refine hcv.mono ?_
  rintro e V ⟨rfl, hbV⟩
  have T2 := HT.out.on hbV
  clear hcv hbV
  have r0 := T2.rg.c0
  have r1 := T2.rg.c1
  have r2 := T2.rg.c2
  have r3 := T2.rg.c3
  have r4 := T2.rg.c4
  have z := T2.rg.z
  go_wp2
  obtain ⟨hg, hb⟩ := T2.ret 1 A 0 ((B - 1 : Nat) : Int) 0
  exact ret_rb (g := w.heap.size + 1) rfl rfl rfl rfl hg ⟨rfl, hb⟩
end Go.Proofs.Ytnngcminomooeaa.Po
