/-
  Package wordobj: Around.
-/
import Derived.Test.YtenehehljmckbaaOc
import Derived.Test.YtenehehljmckbaaOe
import Derived.Test.YtenehehljmckbaaOj
set_option linter.unusedVariables false
set_option linter.unusedSimpArgs false
set_option maxRecDepth 100000
namespace Go.Proofs.Ytenehehljmckbaa.Wo
open Go Go.RowKit Go.Proofs.Ytenehehljmckbaa.Vk Go.Proofs.Ytenehehljmckbaa.Str Go.Proofs.Ytenehehljmckbaa.Ln Go.Proofs.Ytenehehljmckbaa.Cl Go.Proofs.Ytenehehljmckbaa.Mv
attribute [local go_sem] Oper.semAt_some

set_option maxHeartbeats 8000000 in
theorem around_any (a : Option Addr) (n c' : Nat) (ls : List ByteArray) (l c nn : Int) (b : Bool) (w : World) (h : Ss w a n c' ls) (hs : ∀ s ∈ ls, s.size ≤ 1000000) :
    Calls Try.prog 16 #[.slice a n c', .agg #[.int .i64 l, .int .i64 c], .int .i64 nn, .bool b] w fun e w' => e = .returned (anV l.toNat (arA ls b l c nn)) ∧ Below w.heap.size w w' := by
  have hlen := h.length
  obtain ⟨X, hX⟩ : ∃ X, X = (w.alloc (.cells #[.int .i64 l, .int .i64 c] 36)).alloc (.cells #[.int .i64 0, .int .i64 0, .int .i64 0, .int .i64 0, .int .i64 0] 43) := ⟨_, rfl⟩
  have hT : Vb w X l c := by rw [hX]; exact Vb.new w l c
  have HX := Lib.hid hX
  have p0 := hT.pos.c0
  have p1 := hT.pos.c1
  by_cases hO : On ls l c
  · obtain ⟨i, k, rfl, rfl, hi, hk⟩ := hO.nat
    have hra := runsAt_yes a n c' ls i k b X (SrcV.below h hT.below) hs hO
    have hcle := cn_le (c := k) (rs (lineAt ls i) b)
    have hst : (rs (lineAt ls i) b).length ≤ 1000000 := by
      have h1 := (rs_rg (s := lineAt ls i) (b := b)).len
      have h2 : (lineAt ls i).size ≤ 1000000 := by rw [lineAt_get hi]; exact hs _ (List.getElem_mem _)
      omega
    rw [Int.toNat_natCast]
    have hyes := fun (m : Nat) (hm : 1 ≤ m) => arA_yes (b := b) hO hm
    generalize lineAt ls i = st at *
    generalize hL : rs st b = L at *
    generalize cn k L = K at *
    by_cases hn1 : nn < 1
    · have hno := arA_no (b := b) (ls := ls) (l := i) (c := k) (nn := nn) (fun hh => by omega)
      rw [hno]
      have d0 : decide (nn < 1) = true := decide_eq_true hn1
      clear hX h hO hyes hno hk
      go_enter Try.func16, Try.ntmps16
      go_wp2_with fail
      rw [← HX.out]
      refine hra.mono ?_
      rintro e w1 ⟨ra, N, cc, rfl, hw, hb1⟩
      have T1 := hT.on hb1
      clear hra p0 p1 hT hb1
      have r0 := T1.rg.c0
      have r1 := T1.rg.c1
      have r2 := T1.rg.c2
      have r3 := T1.rg.c3
      have r4 := T1.rg.c4
      have z := T1.rg.z
      go_wp2
      obtain ⟨hg, hb⟩ := T1.ret 0 0 0 0 0
      exact ret_rb (g := w.heap.size + 1) rfl rfl rfl rfl hg ⟨rfl, hb⟩
    · obtain ⟨m, rfl⟩ : ∃ m : Nat, nn = m := ⟨nn.toNat, by omega⟩
      rw [hyes m (by omega)]
      clear hyes
      have hm1 : 1 ≤ m := by omega
      have d0 : decide ((m : Int) < 1) = false := decide_eq_false hn1
      have d00 : decide (m < 1) = false := decide_eq_false (by omega)
      by_cases hKL : K < L.length
      rotate_left
      · have hno : arL st b L K m = none := if_neg hKL
        rw [hno]
        have hKK : K = L.length := by omega
        have HK := Lib.hid hKK
        clear hX h hO hno hk hKL hKK
        go_enter Try.func16, Try.ntmps16
        go_wp2_with fail
        rw [← HX.out]
        refine hra.mono ?_
        rintro e w1 ⟨ra, N, cc, rfl, hw, hb1⟩
        have hwl := hw.length
        have c1 : ((K : Int) == (N : Int)) = true := by have := HK.out; rw [beq_iff_eq]; omega
        have c2 : (K == N) = true := by have := HK.out; rw [beq_iff_eq]; omega
        have T1 := hT.on hb1
        clear hra p0 p1 hT hb1 hwl
        have r0 := T1.rg.c0
        have r1 := T1.rg.c1
        have r2 := T1.rg.c2
        have r3 := T1.rg.c3
        have r4 := T1.rg.c4
        have z := T1.rg.z
        go_wp2
        obtain ⟨hg, hb⟩ := T1.ret 0 0 0 0 0
        exact ret_rb (g := w.heap.size + 1) rfl rfl rfl rfl hg ⟨rfl, hb⟩
      have hal : arL st b L K m = (gr st b L (bb st b L K) m K).map fun e => ((L.getD (frm st b L K e) (0, 0)).1, (L.getD (e - 1) (0, 0)).2) := if_pos hKL
      rw [hal]
      clear hal
      cases hg : gr st b L (bb st b L K) m K with
      | none =>
        have HG := Lib.hid hg
        clear hX h hO hk hg
        dsimp only [Option.map]
        go_enter Try.func16, Try.ntmps16
        go_wp2_with fail
        rw [← HX.out]
        refine hra.mono ?_
        rintro e w1 ⟨ra, N, cc, rfl, hw, hb1⟩
        have hwl := hw.length
        have hgp := grouped_any st b ra N cc L K m w1 hw (by omega) (by omega)
        rw [HG.out] at hgp
        have c1 : ((K : Int) == (N : Int)) = false := by rw [beq_eq_false_iff_ne]; omega
        have c2 : (K == N) = false := by rw [beq_eq_false_iff_ne]; omega
        have T1 := hT.on hb1
        clear hra p0 p1 hT hb1 hwl
        go_wp2_with fail
        refine hgp.mono ?_
        rintro e w' ⟨rfl, rfl⟩
        clear hgp
        dsimp only [grV]
        have r0 := T1.rg.c0
        have r1 := T1.rg.c1
        have r2 := T1.rg.c2
        have r3 := T1.rg.c3
        have r4 := T1.rg.c4
        have z := T1.rg.z
        go_wp2
        obtain ⟨hg, hb⟩ := T1.ret 0 0 0 0 0
        exact ret_rb (g := w.heap.size + 1) rfl rfl rfl rfl hg ⟨rfl, hb⟩
      | some E =>
        have hle := gr_le (s := st) (b := b) (l := L) (by omega) m E hg
        obtain ⟨M, hM⟩ : ∃ M, M = E - 1 := ⟨_, rfl⟩
        have HG := Lib.hid hg
        have HE := Lib.hid (show K + 1 ≤ E ∧ E ≤ L.length ∧ M + 1 = E from by omega)
        obtain ⟨B, hB⟩ : ∃ B, B = (L.getD M (0, 0)).2 := ⟨_, rfl⟩
        have HB := Lib.hid hB
        dsimp only [Option.map]
        rw [← hM, ← hB]
        have hfr : frm st b L K E = if bb st b L M = false ∧ 0 < K ∧ bb st b L (K - 1) = true then K - 1 else K := by rw [hM]; rfl
        clear hX h hO hk hg hM hB hle hm1
        cases hbe : bb st b L M
        rotate_left
        · rw [hbe, if_neg (by simp)] at hfr
          rw [hfr]
          have HBE := Lib.hid hbe
          clear hbe hfr
          obtain ⟨A, hA⟩ : ∃ A, A = (L.getD K (0, 0)).1 := ⟨_, rfl⟩
          rw [← hA]
          have HA := Lib.hid hA
          clear hA
          go_enter Try.func16, Try.ntmps16
          go_wp2_with fail
          rw [← HX.out]
          refine hra.mono ?_
          rintro e w1 ⟨ra, N, cc, rfl, hw, hb1⟩
          have hwl := hw.length
          have hED := HE.out
          have hgp := grouped_any st b ra N cc L K m w1 hw (by omega) (by omega)
          rw [HG.out] at hgp
          obtain ⟨g, o, rfl, x0, u0, u1, hnc⟩ := hw.read K (by omega)
          obtain ⟨g', o', he, u2, y1, y2, u3⟩ := hw.read M (by omega)
          clear u0 u1 u2 u3
          injection he with he
          injection he with e1 e2
          subst e1 e2
          have gA : L.getD K (0, 0) = L[K]'(by omega) := by rw [List.getD_eq_getElem?_getD, List.getElem?_eq_getElem (by omega)]; rfl
          have gB : L.getD M (0, 0) = L[M]'(by omega) := by rw [List.getD_eq_getElem?_getD, List.getElem?_eq_getElem (by omega)]; rfl
          have hA := HA.out
          have hB := HB.out
          rw [gA] at hA
          rw [gB] at hB
          rw [← hA] at x0
          rw [← hB] at y1
          rw [HBE.out] at y2
          have y1 : w1.cell? ⟨g, o + K * 3 + (E - K - 1) * 3 + 1, none⟩ = some (.int .i64 B) := by rw [← y1]; congr 2; omega
          have HXX := Lib.hid hwl
          have T1 := hT.on hb1
          have hwM : IntKind.i64.wrap ((E : Int) - 1) = (M : Int) := by rw [IntKind.wrap_i64]; omega
          have c1 : ((K : Int) == (N : Int)) = false := by rw [beq_eq_false_iff_ne]; omega
          have c2 : (K == N) = false := by rw [beq_eq_false_iff_ne]; omega
          have b5 : (M : Int) < (N : Int) := by omega
          clear hra p0 p1 hT hb1 hw gA gB hA hB hED
          go_wp2_with fail
          refine hgp.mono ?_
          rintro e w' ⟨rfl, rfl⟩
          clear hgp
          dsimp only [grV]
          have hED := HE.out
          have hcv := fun z : Gr w1 => covered_any i A B g (o + K * 3) (E - K) (cc - K) z.W (by omega) (by omega) (z.cell x0) (z.cell y1)
          have b1 : (K : Int) ≤ (E : Int) := by omega
          have b2 : (E : Int) ≤ (N : Int) := by omega
          have b3 : (E : Int) ≤ (cc : Int) := by omega
          have f0 := fun z : Gr w1 => z.cell T1.pos.c0
          have HT := Lib.hid T1
          clear x0 y1 T1 hED
          go_upto_region 9 with fail
          refine wp_region_grow_tail 7 (by kernel_rfl) (by kernel_rfl) ?_
          simp only [List.take_succ_cons, List.take_zero, List.drop_succ_cons, List.drop_zero]
          repeat (go_big_quiet_step (first | (go_at_call 24; exact Calls.grow_of (hcv _))))
          refine wpQuiet_nil ?_
          rintro V ⟨⟨_, hbV⟩, rfl⟩
          have T2 := HT.out.on hbV
          clear f0 hcv hbV
          have r0 := T2.rg.c0
          have r1 := T2.rg.c1
          have r2 := T2.rg.c2
          have r3 := T2.rg.c3
          have r4 := T2.rg.c4
          have z := T2.rg.z
          go_wp2
          obtain ⟨hg, hb⟩ := T2.ret 0 i A i B
          exact ret_rb (g := w.heap.size + 1) rfl rfl rfl rfl hg ⟨rfl, hb⟩
        · rw [hbe] at hfr
          have HBE := Lib.hid hbe
          clear hbe
          by_cases hK0 : 0 < K
          rotate_left
          · rw [if_neg (by omega)] at hfr
            rw [hfr]
            clear hfr
            have d2 : decide (0 < K) = false := decide_eq_false hK0
            have d3 : decide ((0 : Int) < (K : Int)) = false := decide_eq_false (by omega)
            obtain ⟨A, hA⟩ : ∃ A, A = (L.getD K (0, 0)).1 := ⟨_, rfl⟩
            rw [← hA]
            have HA := Lib.hid hA
            clear hA
            go_enter Try.func16, Try.ntmps16
            go_wp2_with fail
            rw [← HX.out]
            refine hra.mono ?_
            rintro e w1 ⟨ra, N, cc, rfl, hw, hb1⟩
            have hwl := hw.length
            have hED := HE.out
            have hgp := grouped_any st b ra N cc L K m w1 hw (by omega) (by omega)
            rw [HG.out] at hgp
            obtain ⟨g, o, rfl, x0, u0, u1, hnc⟩ := hw.read K (by omega)
            obtain ⟨g', o', he, u2, y1, y2, u3⟩ := hw.read M (by omega)
            clear u0 u1 u2 u3
            injection he with he
            injection he with e1 e2
            subst e1 e2
            have gA : L.getD K (0, 0) = L[K]'(by omega) := by rw [List.getD_eq_getElem?_getD, List.getElem?_eq_getElem (by omega)]; rfl
            have gB : L.getD M (0, 0) = L[M]'(by omega) := by rw [List.getD_eq_getElem?_getD, List.getElem?_eq_getElem (by omega)]; rfl
            have hA := HA.out
            have hB := HB.out
            rw [gA] at hA
            rw [gB] at hB
            rw [← hA] at x0
            rw [← hB] at y1
            rw [HBE.out] at y2
            have y1 : w1.cell? ⟨g, o + K * 3 + (E - K - 1) * 3 + 1, none⟩ = some (.int .i64 B) := by rw [← y1]; congr 2; omega
            have HXX := Lib.hid hwl
            have T1 := hT.on hb1
            have hwM : IntKind.i64.wrap ((E : Int) - 1) = (M : Int) := by rw [IntKind.wrap_i64]; omega
            have c1 : ((K : Int) == (N : Int)) = false := by rw [beq_eq_false_iff_ne]; omega
            have c2 : (K == N) = false := by rw [beq_eq_false_iff_ne]; omega
            have b5 : (M : Int) < (N : Int) := by omega
            clear hra p0 p1 hT hb1 hw gA gB hA hB hED
            go_wp2_with fail
            refine hgp.mono ?_
            rintro e w' ⟨rfl, rfl⟩
            clear hgp
            dsimp only [grV]
            have hED := HE.out
            have hcv := fun z : Gr w1 => covered_any i A B g (o + K * 3) (E - K) (cc - K) z.W (by omega) (by omega) (z.cell x0) (z.cell y1)
            have b1 : (K : Int) ≤ (E : Int) := by omega
            have b2 : (E : Int) ≤ (N : Int) := by omega
            have b3 : (E : Int) ≤ (cc : Int) := by omega
            have f0 := fun z : Gr w1 => z.cell T1.pos.c0
            have HT := Lib.hid T1
            clear x0 y1 T1 hED
            go_upto_region 9 with fail
            refine wp_region_grow_tail 7 (by kernel_rfl) (by kernel_rfl) ?_
            simp only [List.take_succ_cons, List.take_zero, List.drop_succ_cons, List.drop_zero]
            repeat (go_big_quiet_step (first | (go_at_call 24; exact Calls.grow_of (hcv _))))
            refine wpQuiet_nil ?_
            rintro V ⟨⟨_, hbV⟩, rfl⟩
            have T2 := HT.out.on hbV
            clear f0 hcv hbV
            have r0 := T2.rg.c0
            have r1 := T2.rg.c1
            have r2 := T2.rg.c2
            have r3 := T2.rg.c3
            have r4 := T2.rg.c4
            have z := T2.rg.z
            go_wp2
            obtain ⟨hg, hb⟩ := T2.ret 0 i A i B
            exact ret_rb (g := w.heap.size + 1) rfl rfl rfl rfl hg ⟨rfl, hb⟩
          · have d2 : decide (0 < K) = true := decide_eq_true hK0
            have d3 : decide ((0 : Int) < (K : Int)) = true := decide_eq_true (by omega)
            obtain ⟨F, hF⟩ : ∃ F, F = K - 1 := ⟨_, rfl⟩
            rw [← hF] at hfr
            have HF := Lib.hid (show F + 1 = K from by omega)
            clear hF
            cases hbk : bb st b L F
            · rw [hbk, if_neg (by simp)] at hfr
              rw [hfr]
              clear hfr
              have HBK := Lib.hid hbk
              clear hbk
              obtain ⟨A, hA⟩ : ∃ A, A = (L.getD K (0, 0)).1 := ⟨_, rfl⟩
              rw [← hA]
              have HA := Lib.hid hA
              clear hA
              go_enter Try.func16, Try.ntmps16
              go_wp2_with fail
              rw [← HX.out]
              refine hra.mono ?_
              rintro e w1 ⟨ra, N, cc, rfl, hw, hb1⟩
              have hwl := hw.length
              have hED := HE.out
              have hgp := grouped_any st b ra N cc L K m w1 hw (by omega) (by omega)
              rw [HG.out] at hgp
              obtain ⟨g, o, rfl, x0, u0, u1, hnc⟩ := hw.read K (by omega)
              obtain ⟨g', o', he, u2, y1, y2, u3⟩ := hw.read M (by omega)
              clear u0 u1 u2 u3
              injection he with he
              injection he with e1 e2
              subst e1 e2
              have gA : L.getD K (0, 0) = L[K]'(by omega) := by rw [List.getD_eq_getElem?_getD, List.getElem?_eq_getElem (by omega)]; rfl
              have gB : L.getD M (0, 0) = L[M]'(by omega) := by rw [List.getD_eq_getElem?_getD, List.getElem?_eq_getElem (by omega)]; rfl
              have hA := HA.out
              have hB := HB.out
              rw [gA] at hA
              rw [gB] at hB
              rw [← hA] at x0
              rw [← hB] at y1
              rw [HBE.out] at y2
              have y1 : w1.cell? ⟨g, o + K * 3 + (E - K - 1) * 3 + 1, none⟩ = some (.int .i64 B) := by rw [← y1]; congr 2; omega
              have hFF := HF.out
              obtain ⟨g2, o2, he2, v0, v1, v2, v3⟩ := hw.read F (by omega)
              clear v0 v1 v3
              injection he2 with he2
              injection he2 with e1 e2
              subst e1 e2
              rw [HBK.out] at v2
              have hwF : IntKind.i64.wrap ((K : Int) - 1) = (F : Int) := by rw [IntKind.wrap_i64]; omega
              have b6 : (F : Int) < (N : Int) := by omega
              clear hFF
              have T1 := hT.on hb1
              have hwM : IntKind.i64.wrap ((E : Int) - 1) = (M : Int) := by rw [IntKind.wrap_i64]; omega
              have c1 : ((K : Int) == (N : Int)) = false := by rw [beq_eq_false_iff_ne]; omega
              have c2 : (K == N) = false := by rw [beq_eq_false_iff_ne]; omega
              have b5 : (M : Int) < (N : Int) := by omega
              clear hra p0 p1 hT hb1 hw gA gB hA hB hED
              go_wp2_with fail
              refine hgp.mono ?_
              rintro e w' ⟨rfl, rfl⟩
              clear hgp
              dsimp only [grV]
              have hED := HE.out
              have hcv := fun z : Gr w1 => covered_any i A B g (o + K * 3) (E - K) (cc - K) z.W (by omega) (by omega) (z.cell x0) (z.cell y1)
              have b1 : (K : Int) ≤ (E : Int) := by omega
              have b2 : (E : Int) ≤ (N : Int) := by omega
              have b3 : (E : Int) ≤ (cc : Int) := by omega
              have f0 := fun z : Gr w1 => z.cell T1.pos.c0
              have HT := Lib.hid T1
              clear x0 y1 T1 hED
              go_upto_region 9 with fail
              refine wp_region_grow_tail 7 (by kernel_rfl) (by kernel_rfl) ?_
              simp only [List.take_succ_cons, List.take_zero, List.drop_succ_cons, List.drop_zero]
              repeat (go_big_quiet_step (first | (go_at_call 24; exact Calls.grow_of (hcv _))))
              refine wpQuiet_nil ?_
              rintro V ⟨⟨_, hbV⟩, rfl⟩
              have T2 := HT.out.on hbV
              clear f0 hcv hbV
              have r0 := T2.rg.c0
              have r1 := T2.rg.c1
              have r2 := T2.rg.c2
              have r3 := T2.rg.c3
              have r4 := T2.rg.c4
              have z := T2.rg.z
              go_wp2
              obtain ⟨hg, hb⟩ := T2.ret 0 i A i B
              exact ret_rb (g := w.heap.size + 1) rfl rfl rfl rfl hg ⟨rfl, hb⟩
            · rw [hbk, if_pos (by simp [hK0])] at hfr
              rw [hfr]
              clear hfr
              have HBK := Lib.hid hbk
              clear hbk
              have hFF := HF.out
              obtain ⟨A, hA⟩ : ∃ A, A = (L.getD F (0, 0)).1 := ⟨_, rfl⟩
              rw [← hA]
              have HA := Lib.hid hA
              clear hA
              go_enter Try.func16, Try.ntmps16
              go_wp2_with fail
              rw [← HX.out]
              refine hra.mono ?_
              rintro e w1 ⟨ra, N, cc, rfl, hw, hb1⟩
              have hwl := hw.length
              have hED := HE.out
              have hgp := grouped_any st b ra N cc L K m w1 hw (by omega) (by omega)
              rw [HG.out] at hgp
              obtain ⟨g, o, rfl, x0, u0, u1, hnc⟩ := hw.read F (by omega)
              obtain ⟨g', o', he, u2, y1, y2, u3⟩ := hw.read M (by omega)
              clear u0 u1 u2 u3
              injection he with he
              injection he with e1 e2
              subst e1 e2
              have gA : L.getD F (0, 0) = L[F]'(by omega) := by rw [List.getD_eq_getElem?_getD, List.getElem?_eq_getElem (by omega)]; rfl
              have gB : L.getD M (0, 0) = L[M]'(by omega) := by rw [List.getD_eq_getElem?_getD, List.getElem?_eq_getElem (by omega)]; rfl
              have hA := HA.out
              have hB := HB.out
              rw [gA] at hA
              rw [gB] at hB
              rw [← hA] at x0
              rw [← hB] at y1
              rw [HBE.out] at y2
              have y1 : w1.cell? ⟨g, o + F * 3 + (E - F - 1) * 3 + 1, none⟩ = some (.int .i64 B) := by rw [← y1]; congr 2; omega
              obtain ⟨g2, o2, he2, v0, v1, v2, v3⟩ := hw.read F (by omega)
              clear v0 v1 v3
              injection he2 with he2
              injection he2 with e1 e2
              subst e1 e2
              rw [HBK.out] at v2
              have hwF : IntKind.i64.wrap ((K : Int) - 1) = (F : Int) := by rw [IntKind.wrap_i64]; omega
              have b6 : (F : Int) < (N : Int) := by omega
              have T1 := hT.on hb1
              have hwM : IntKind.i64.wrap ((E : Int) - 1) = (M : Int) := by rw [IntKind.wrap_i64]; omega
              have c1 : ((K : Int) == (N : Int)) = false := by rw [beq_eq_false_iff_ne]; omega
              have c2 : (K == N) = false := by rw [beq_eq_false_iff_ne]; omega
              have b5 : (M : Int) < (N : Int) := by omega
              clear hra p0 p1 hT hb1 hw gA gB hA hB hED hFF
              go_wp2_with fail
              refine hgp.mono ?_
              rintro e w' ⟨rfl, rfl⟩
              clear hgp
              dsimp only [grV]
              have hFF := HF.out
              have hED := HE.out
              have hcv := fun z : Gr w1 => covered_any i A B g (o + F * 3) (E - F) (cc - F) z.W (by omega) (by omega) (z.cell x0) (z.cell y1)
              have b1 : (F : Int) ≤ (E : Int) := by omega
              have b2 : (E : Int) ≤ (N : Int) := by omega
              have b3 : (E : Int) ≤ (cc : Int) := by omega
              have f0 := fun z : Gr w1 => z.cell T1.pos.c0
              have HT := Lib.hid T1
              clear x0 y1 T1 hED hFF
              go_upto_region 9 with fail
              refine wp_region_grow_tail 7 (by kernel_rfl) (by kernel_rfl) ?_
              simp only [List.take_succ_cons, List.take_zero, List.drop_succ_cons, List.drop_zero]
              repeat (go_big_quiet_step (first | (go_at_call 24; exact Calls.grow_of (hcv _))))
              refine wpQuiet_nil ?_
              rintro V ⟨⟨_, hbV⟩, rfl⟩
              have T2 := HT.out.on hbV
              clear f0 hcv hbV
              have r0 := T2.rg.c0
              have r1 := T2.rg.c1
              have r2 := T2.rg.c2
              have r3 := T2.rg.c3
              have r4 := T2.rg.c4
              have z := T2.rg.z
              go_wp2
              obtain ⟨hg, hb⟩ := T2.ret 0 i A i B
              exact ret_rb (g := w.heap.size + 1) rfl rfl rfl rfl hg ⟨rfl, hb⟩
  · have hra := runsAt_no a n c' ls l c b X (SrcV.below h hT.below) (fun s hh => Nat.le_trans (hs s hh) (by omega)) hO
    rw [arA_no (fun hh => hO hh.1)]
    clear hX h hO
    by_cases hn1 : nn < 1
    · have d1 : decide (nn < 1) = true := decide_eq_true hn1
      go_enter Try.func16, Try.ntmps16
      go_wp2_with fail
      rw [← HX.out]
      refine hra.mono ?_
      rintro e w1 ⟨rfl, hb1⟩
      have T1 := hT.on hb1
      clear hra p0 p1 hT hb1
      have r0 := T1.rg.c0
      have r1 := T1.rg.c1
      have r2 := T1.rg.c2
      have r3 := T1.rg.c3
      have r4 := T1.rg.c4
      have z := T1.rg.z
      go_wp2
      obtain ⟨hg, hb⟩ := T1.ret 0 0 0 0 0
      exact ret_rb (g := w.heap.size + 1) rfl rfl rfl rfl hg ⟨rfl, hb⟩
    · have d1 : decide (nn < 1) = false := decide_eq_false hn1
      go_enter Try.func16, Try.ntmps16
      go_wp2_with fail
      rw [← HX.out]
      refine hra.mono ?_
      rintro e w1 ⟨rfl, hb1⟩
      have T1 := hT.on hb1
      clear hra p0 p1 hT hb1
      have r0 := T1.rg.c0
      have r1 := T1.rg.c1
      have r2 := T1.rg.c2
      have r3 := T1.rg.c3
      have r4 := T1.rg.c4
      have z := T1.rg.z
      go_wp2
      obtain ⟨hg, hb⟩ := T1.ret 0 0 0 0 0
      exact ret_rb (g := w.heap.size + 1) rfl rfl rfl rfl hg ⟨rfl, hb⟩
end Go.Proofs.Ytenehehljmckbaa.Wo
