/-
  The document's WordAround.
-/
import Derived.Test.YtenehehljmckbaaOf
import Derived.Test.YtenehehljmckbaaOd
import Derived.Test.YtenehehljmckbaaOj
set_option linter.unusedVariables false
set_option linter.unusedSimpArgs false
set_option maxRecDepth 100000
namespace Go.Proofs.Ytenehehljmckbaa.Wo
open Go Go.RowKit Go.Proofs.Ytenehehljmckbaa.Vk Go.Proofs.Ytenehehljmckbaa.Str Go.Proofs.Ytenehehljmckbaa.Ln Go.Proofs.Ytenehehljmckbaa.Cl Go.Proofs.Ytenehehljmckbaa.Mv
attribute [local go_sem] Oper.semAt_some

theorem bb_beq {s : ByteArray} {b : Bool} {l : List RN} {i : Nat} (h : i < l.length) : (kl s b l[i].1 == 0) = bb s b l i := by
  rw [bb_at h]; unfold bk; by_cases e : kl s b l[i].1 = 0 <;> simp [e]
set_option maxHeartbeats 8000000 in
theorem waround_any (a : Option Addr) (n c' : Nat) (ls : List ByteArray) (l c nn : Int) (b : Bool) (w : World) (h : Ss w a n c' ls) (hs : ∀ s ∈ ls, s.size ≤ 1000000) :
    Calls Try.prog 17 #[.slice a n c', .agg #[.int .i64 l, .int .i64 c], .int .i64 nn, .bool b] w fun e w' => e = .returned (anV l.toNat (arA ls b l c nn)) ∧ Below w.heap.size w w' := by
  have hlen := h.length
  obtain ⟨X, hX⟩ : ∃ X, X = (w.alloc (.cells #[.int .i64 l, .int .i64 c] 36)).alloc (.cells #[.int .i64 0, .int .i64 0, .int .i64 0, .int .i64 0, .int .i64 0] 43) := ⟨_, rfl⟩
  have hT : Vb w X l c := by rw [hX]; exact Vb.new w l c
  have HX := Lib.hid hX
  have p0 := hT.pos.c0
  have p1 := hT.pos.c1
  have hon := on_any a n c' ls l c nn X (SrcV.below h hT.below)
  by_cases hO : On ls l c ∧ 1 ≤ nn
  rotate_left
  · rw [arA_no hO]
    rw [decide_eq_false hO] at hon
    clear hX h hO
    go_enter Try.func17, Try.ntmps17
    go_wp2_with fail
    rw [← HX.out]
    refine hon.mono ?_
    rintro e w1 ⟨rfl, hb1⟩
    have T1 := hT.on hb1
    clear hon p0 p1 hT hb1
    have r0 := T1.rg.c0
    have r1 := T1.rg.c1
    have r2 := T1.rg.c2
    have r3 := T1.rg.c3
    have r4 := T1.rg.c4
    have z := T1.rg.z
    go_wp2
    obtain ⟨hg, hb⟩ := T1.ret 0 0 0 0 0
    exact ret_rb (g := w.heap.size + 1) rfl rfl rfl rfl hg ⟨rfl, hb⟩
  rw [decide_eq_true hO] at hon
  obtain ⟨hO, hn1⟩ := hO
  obtain ⟨i, k, rfl, rfl, hi, hk⟩ := hO.nat
  obtain ⟨m, rfl⟩ : ∃ m : Nat, nn = m := ⟨nn.toNat, by omega⟩
  have hm1 : 1 ≤ m := by omega
  rw [Int.toNat_natCast, arA_yes hO hm1]
  obtain ⟨g0, o0, rfl, hcx, hnc⟩ := h.read i (by omega)
  rw [← lineAt_get (ls := ls) (k := i) (by omega)] at hcx
  have hst : (lineAt ls i).size ≤ 1000000 := by rw [lineAt_get hi]; exact hs _ (List.getElem_mem _)
  have hcx := cell_later hT.below hcx
  have b1 : (i : Int) < (n : Int) := by omega
  generalize lineAt ls i = st at *
  clear hX h hs hnc hO hn1 hi
  by_cases hz : st.size = 0
  · have hK : arL st b (rs st b) (cn k (rs st b)) m = none := by
      have : rs st b = [] := by unfold rs; rw [hz]; rfl
      rw [this]
      exact if_neg (by rw [cn_nil]; simp)
    rw [hK]
    have he := empty_of_zero hz
    clear hK hz hst hk
    go_enter Try.func17, Try.ntmps17
    go_wp2_with fail
    rw [← HX.out]
    refine hon.mono ?_
    rintro e w1 ⟨rfl, hb1⟩
    have T1 := hT.on hb1
    have q0 := T1.pos.c0
    have cx := cell_later hb1 hcx
    clear hon p0 p1 hT hb1 hcx
    have r0 := T1.rg.c0
    have r1 := T1.rg.c1
    have r2 := T1.rg.c2
    have r3 := T1.rg.c3
    have r4 := T1.rg.c4
    have z := T1.rg.z
    go_wp2
    obtain ⟨hg, hb⟩ := T1.ret 0 0 0 0 0
    exact ret_rb (g := w.heap.size + 1) rfl rfl rfl rfl hg ⟨rfl, hb⟩
  have hks : k < st.size := by omega
  have he := empty_of_pos (x := st) (by omega)
  have hrg := rs_rg (s := st) (b := b)
  obtain ⟨K, hAt⟩ := hrg.at hks
  rw [hAt.cn hrg]
  have hKl := hAt.lt
  have hLl : (rs st b).length ≤ 1000000 := by have := hrg.len; omega
  have hal : arL st b (rs st b) K m = (gr st b (rs st b) (bb st b (rs st b) K) m K).map fun e => (((rs st b).getD (frm st b (rs st b) K e) (0, 0)).1, ((rs st b).getD (e - 1) (0, 0)).2) := if_pos hKl
  have hlt0 : ∀ j, (hj : j < (rs st b).length) → ((rs st b)[j]'hj).1 < st.size := fun j hj => by have := hrg.ne j hj; have := hrg.le j hj; omega
  obtain ⟨r, hr⟩ : ∃ r, r = arL st b (rs st b) K m := ⟨_, rfl⟩
  rw [hal] at hr
  rw [hal, ← hr]
  clear hal
  have hfb := fun e => frm_blank (e := e) hrg (k := K)
  have htk := fun (hk : bb st b (rs st b) K = false) j d => took (j := j) (d := d) hrg hk
  obtain ⟨L, hL⟩ : ∃ L, L = rs st b := ⟨_, rfl⟩
  have HL := Lib.hid hL
  rw [← hL] at hAt hKl hLl hr hfb htk
  have hlt : ∀ j, (hj : j < L.length) → (L[j]'hj).1 < st.size := fun j hj => by subst hL; exact hlt0 j hj
  have HA := Lib.hid hAt
  have HLT := Lib.hid hlt
  have HFB := Lib.hid hfb
  have HTK := Lib.hid htk
  have HR := Lib.hid hr
  have HM1 := Lib.hid hm1
  clear hAt hL hrg hz hk hlt hlt0 hfb htk hr hm1
  go_enter Try.func17, Try.ntmps17
  go_wp2_with fail
  rw [← HX.out]
  refine hon.mono ?_
  rintro e w1 ⟨rfl, hb1⟩
  have T1 := hT.on hb1
  have q0 := T1.pos.c0
  have cx := cell_later hb1 hcx
  clear hon p0 p1 hT hb1 hcx
  go_wp2_with fail
  refine (runs15_any st b w1 hst).mono ?_
  rintro e w2 ⟨ra, N, cc, rfl, hR⟩
  have T2 := T1.on hR.bel
  have hrs : Rs w2 ra N cc L := by rw [HL.out]; exact hR.rs
  have hNl := hrs.length
  have q0 := T2.pos.c0
  have q1 := T2.pos.c1
  clear hR T1 cx
  go_wp2_with fail
  refine (find_any ra N cc L k K w2 hrs HA.out (by omega)).mono ?_
  rintro e w' ⟨rfl, rfl⟩
  obtain ⟨g, o, rfl, x0, x1, hnc⟩ := hrs.read K (by omega)
  obtain ⟨A0, hA0⟩ : ∃ A, A = (L[K]'(by omega)).1 := ⟨_, rfl⟩
  rw [← hA0] at x0
  have hA0s : A0 < st.size := by rw [hA0]; exact HLT.out K (by omega)
  have hbe : (kl st b A0 == 0) = bb st b L K := by rw [hA0]; exact bb_beq (by omega)
  have HA0 := Lib.hid hA0
  have b2 : (K : Int) < (N : Int) := by omega
  have b4 : (A0 : Int) < (st.size : Int) := by omega
  have f1 := fun z : Gr w2 => z.cell x0
  have HT2 := Lib.hid T2
  have HRS2 := Lib.hid hrs
  clear hA0 x0 x1 hrs q0 q1 T2 hnc
  go_upto_region 6 with fail
  refine wp_region_grow (by kernel_rfl) (by kernel_rfl) ?_
  repeat (go_big_quiet_step (fail))
  refine wpQuiet_nil ?_
  rintro V3 ⟨⟨_, hb3⟩, rfl⟩
  have x0 : V3.cell? ⟨g, o + K * 2, none⟩ = some (.int .i64 A0) := f1 ⟨V3, hb3⟩
  have HT := Lib.hid (HT2.out.on hb3)
  have HRS := Lib.hid (HRS2.out.below hb3)
  clear f1 hb3

  go_wp2_with fail
  refine (of5_kl st b A0 hA0s V3).mono ?_
  rintro e w' ⟨rfl, rfl⟩
  cases hah : bb st b L K
  · rw [hah] at hbe
    have HAH := Lib.hid hah
    have hHR := HR.out
    rw [hah] at hHR
    have HR := Lib.hid hHR
    clear hah hHR
    go_wp2
    clear hbe x0
    go_loop [13, 16, 17] (fun e t j => ∃ d j' : Nat, ∃ tk : Bool, e = .int .i64 d ∧ t = .bool tk ∧ j = .int .i64 j' ∧ Hid (j' ≤ m ∧ gr st b L false j' K = some d ∧ (0 < j' → tk = bb st b L (d - 1)))) (fun _ _ j => m - (RowKit.intOf j).toNat)
    case atStart => exact ⟨K, 0, false, rfl, rfl, rfl, Nat.zero_le _, rfl, fun h => by omega⟩
    case round =>
      obtain ⟨d, j, tk, rfl, rfl, rfl, hQ⟩ := hrel
      by_cases hjm : j < m
      · have e0 : decide (j < m) = true := decide_eq_true hjm
        have e00 : (j : Int) < (m : Int) := by omega
        obtain ⟨J, hJ⟩ : ∃ J, J = j + 1 := ⟨_, rfl⟩
        have hwJ : IntKind.i64.wrap ((j : Int) + 1) = (J : Int) := by have := gr_le (s := st) (b := b) (l := L) (ah := false) (k := K) (by omega) j d hQ.out.2.1; rw [IntKind.wrap_i64]; omega
        have HJ := Lib.hid hJ
        have hdl := (gr_le (s := st) (b := b) (l := L) (ah := false) (k := K) (by omega) j d hQ.out.2.1).2
        by_cases hdn : d < N
        · have hd1 := HTK.out HAH.out j d hQ.out.2.1 (by omega)
          obtain ⟨D, hD⟩ : ∃ D, D = d + 1 := ⟨_, rfl⟩
          have hwD : IntKind.i64.wrap ((d : Int) + 1) = (D : Int) := by rw [IntKind.wrap_i64]; omega
          have e1 : decide (N ≤ d) = false := decide_eq_false (by omega)
          rw [← hD, ← hJ] at hd1
          have HD1 := Lib.hid hd1
          by_cases hDN : D < N
          · obtain ⟨g', o', he', y0, y1, y2⟩ := HRS.out.read D (by omega)
            injection he' with he'
            injection he' with e1' e2'
            subst e1' e2'
            obtain ⟨A1, hA1⟩ : ∃ A, A = (L[D]'(by omega)).1 := ⟨_, rfl⟩
            rw [← hA1] at y0
            have hA1s : A1 < st.size := by rw [hA1]; exact HLT.out D (by omega)
            have hb1 : (kl st b A1 == 0) = bb st b L D := by rw [hA1]; exact bb_beq (by omega)
            have e2 : decide (D < N) = true := decide_eq_true hDN
            have e3 : (D : Int) < (N : Int) := by omega
            have e4 : (A1 : Int) < (st.size : Int) := by omega
            cases hbD : bb st b L D
            · rw [hbD] at hb1
              have HE : Hid (gr st b L false J K = some D ∧ false = bb st b L (D - 1)) := by
                have h1 := HD1.out
                have h2 : pb st b L D = D := by unfold pb; rw [hbD]; rfl
                rw [h2, hbD] at h1
                exact ⟨h1.1, h1.2.symm⟩
              clear hd1 hD hbD hA1 y1 y2 hJ hdl
              go_wp2_with fail
              refine (of5_kl st b A1 hA1s V3).mono ?_
              rintro e w' ⟨rfl, rfl⟩
              go_wp2
              go_round
              case rel => exact ⟨D, J, false, rfl, rfl, rfl, by have := HJ.out; omega, HE.out.1, fun _ => HE.out.2⟩
              case measure => have := HJ.out; simp [RowKit.intOf]; omega
            · rw [hbD] at hb1
              obtain ⟨G, hG⟩ : ∃ G, G = D + 1 := ⟨_, rfl⟩
              have hwG : IntKind.i64.wrap ((D : Int) + 1) = (G : Int) := by rw [IntKind.wrap_i64]; omega
              have HE : Hid (gr st b L false J K = some G ∧ true = bb st b L (G - 1)) := by
                have h1 := HD1.out
                have h2 : pb st b L D = G := by unfold pb; rw [hbD, hG]; rfl
                rw [h2, hbD] at h1
                exact ⟨h1.1, h1.2.symm⟩
              clear hd1 hD hbD hA1 y1 y2 hJ hG hdl
              go_wp2_with fail
              refine (of5_kl st b A1 hA1s V3).mono ?_
              rintro e w' ⟨rfl, rfl⟩
              go_wp2
              go_round
              case rel => exact ⟨G, J, true, rfl, rfl, rfl, by have := HJ.out; omega, HE.out.1, fun _ => HE.out.2⟩
              case measure => have := HJ.out; simp [RowKit.intOf]; omega
          · have hbD : bb st b L D = false := bb_out (by omega)
            have e2 : decide (D < N) = false := decide_eq_false hDN
            have HE : Hid (gr st b L false J K = some D ∧ false = bb st b L (D - 1)) := by
              have h1 := HD1.out
              have h2 : pb st b L D = D := by unfold pb; rw [hbD]; rfl
              rw [h2, hbD] at h1
              exact ⟨h1.1, h1.2.symm⟩
            clear hd1 hD hbD hJ hdl
            go_wp2
            go_round
            case rel => exact ⟨D, J, false, rfl, rfl, rfl, by have := HJ.out; omega, HE.out.1, fun _ => HE.out.2⟩
            case measure => have := HJ.out; simp [RowKit.intOf]; omega
        · have hnone : gr st b L false (j + 1) K = none := by
            rw [gr_some hQ.out.2.1]; unfold stp; simp only [Bool.false_eq_true, if_false]; rw [if_pos (by omega)]
          have HNO : Hid (r = none) := by rw [HR.out, gr_none hnone m (by omega)]; rfl
          have e1 : decide (N ≤ d) = true := decide_eq_true (by omega)
          have T3 := HT.out
          clear hnone hJ hdl
          have r0 := T3.rg.c0
          have r1 := T3.rg.c1
          have r2 := T3.rg.c2
          have r3 := T3.rg.c3
          have r4 := T3.rg.c4
          have z := T3.rg.z
          go_wp2
          obtain ⟨hg, hb⟩ := T3.ret 0 0 0 0 0
          exact ret_rb (g := w.heap.size + 1) rfl rfl rfl rfl hg ⟨by rw [HNO.out]; rfl, hb⟩
      · have hR9 := hQ.out
        have hjm : j = m := by omega
        have e0 : decide (j < m) = false := decide_eq_false (by omega)
        have hM1 := HM1.out
        have hgE := hR9.2.1
        obtain ⟨M, hM⟩ : ∃ M, M = d - 1 := ⟨_, rfl⟩
        have hle := gr_le (s := st) (b := b) (l := L) (by omega) j d hgE
        rw [hjm] at hgE hle
        have HGE := Lib.hid hgE
        have HME := Lib.hid hM
        have hEN : K + 1 ≤ d ∧ d ≤ N ∧ M + 1 = d := by omega
        have htk := hR9.2.2 (by omega)
        rw [← hM] at htk
        have hfr : frm st b L K d = if bb st b L M = false ∧ 0 < K ∧ bb st b L (K - 1) = true then K - 1 else K := by rw [hM]; rfl
        clear hgE hM hR9 hjm hle hQ hM1
        rw [← htk] at hfr
        have HTT := Lib.hid htk
        clear htk
        cases tk
        rotate_left
        · rw [if_neg (by simp)] at hfr
          have HFR := Lib.hid hfr
          clear hfr
          obtain ⟨B, hB⟩ : ∃ B, B = (L[M]'(by omega)).2 := ⟨_, rfl⟩
          obtain ⟨g', o', he', y0, y1, y2⟩ := HRS.out.read M (by omega)
          injection he' with he'
          injection he' with e1 e2
          subst e1 e2
          rw [← hB] at y1
          have HYES : Hid (r = some (A0, B)) := by
            have gA : L.getD K (0, 0) = L[K]'(by omega) := by rw [List.getD_eq_getElem?_getD, List.getElem?_eq_getElem (by omega)]; rfl
            have gB : L.getD M (0, 0) = L[M]'(by omega) := by rw [List.getD_eq_getElem?_getD, List.getElem?_eq_getElem (by omega)]; rfl
            have h := HR.out
            rw [HGE.out, Option.map_some, HFR.out, ← HME.out, gA, gB, ← hB, ← HA0.out] at h
            exact h
          have hwM : IntKind.i64.wrap ((d : Int) - 1) = (M : Int) := by rw [IntKind.wrap_i64]; omega
          have b3 : (M : Int) < (N : Int) := by omega
          have f0 := fun z : Gr V3 => z.cell HT.out.pos.c0
          have f2 := fun z : Gr V3 => z.cell y1
          have hin := fun z : Gr V3 => in_any i A0 B z.W
          clear hB y0 y1 y2
          go_upto_region 23 with fail
          refine wp_region_grow_tail 12 (by kernel_rfl) (by kernel_rfl) ?_
          simp only [List.take_succ_cons, List.take_zero, List.drop_succ_cons, List.drop_zero]
          repeat (go_big_quiet_step (first | (go_at_call 27; exact Calls.grow_of (hin _))))
          refine wpQuiet_nil ?_
          rintro V4 ⟨⟨_, hbV4⟩, rfl⟩
          have T4 := HT.out.on hbV4
          clear f0 f2 hin hbV4
          have r0 := T4.rg.c0
          have r1 := T4.rg.c1
          have r2 := T4.rg.c2
          have r3 := T4.rg.c3
          have r4 := T4.rg.c4
          have z := T4.rg.z
          go_wp2
          obtain ⟨hg, hb⟩ := T4.ret 0 i A0 i B
          exact ret_rb (g := w.heap.size + 1) rfl rfl rfl rfl hg ⟨by rw [HYES.out]; rfl, hb⟩
        · by_cases hK0 : 0 < K
          rotate_left
          · rw [if_neg (by omega)] at hfr
            have HFR := Lib.hid hfr
            clear hfr
            have d2 : decide (0 < K) = false := decide_eq_false hK0
            have d3 : decide ((0 : Int) < (K : Int)) = false := decide_eq_false (by omega)
            obtain ⟨B, hB⟩ : ∃ B, B = (L[M]'(by omega)).2 := ⟨_, rfl⟩
            obtain ⟨g', o', he', y0, y1, y2⟩ := HRS.out.read M (by omega)
            injection he' with he'
            injection he' with e1 e2
            subst e1 e2
            rw [← hB] at y1
            have HYES : Hid (r = some (A0, B)) := by
              have gA : L.getD K (0, 0) = L[K]'(by omega) := by rw [List.getD_eq_getElem?_getD, List.getElem?_eq_getElem (by omega)]; rfl
              have gB : L.getD M (0, 0) = L[M]'(by omega) := by rw [List.getD_eq_getElem?_getD, List.getElem?_eq_getElem (by omega)]; rfl
              have h := HR.out
              rw [HGE.out, Option.map_some, HFR.out, ← HME.out, gA, gB, ← hB, ← HA0.out] at h
              exact h
            have hwM : IntKind.i64.wrap ((d : Int) - 1) = (M : Int) := by rw [IntKind.wrap_i64]; omega
            have b3 : (M : Int) < (N : Int) := by omega
            have f0 := fun z : Gr V3 => z.cell HT.out.pos.c0
            have f2 := fun z : Gr V3 => z.cell y1
            have hin := fun z : Gr V3 => in_any i A0 B z.W
            clear hB y0 y1 y2
            go_upto_region 23 with fail
            refine wp_region_grow_tail 12 (by kernel_rfl) (by kernel_rfl) ?_
            simp only [List.take_succ_cons, List.take_zero, List.drop_succ_cons, List.drop_zero]
            repeat (go_big_quiet_step (first | (go_at_call 27; exact Calls.grow_of (hin _))))
            refine wpQuiet_nil ?_
            rintro V4 ⟨⟨_, hbV4⟩, rfl⟩
            have T4 := HT.out.on hbV4
            clear f0 f2 hin hbV4
            have r0 := T4.rg.c0
            have r1 := T4.rg.c1
            have r2 := T4.rg.c2
            have r3 := T4.rg.c3
            have r4 := T4.rg.c4
            have z := T4.rg.z
            go_wp2
            obtain ⟨hg, hb⟩ := T4.ret 0 i A0 i B
            exact ret_rb (g := w.heap.size + 1) rfl rfl rfl rfl hg ⟨by rw [HYES.out]; rfl, hb⟩
          · have d2 : decide (0 < K) = true := decide_eq_true hK0
            have d3 : decide ((0 : Int) < (K : Int)) = true := decide_eq_true (by omega)
            obtain ⟨F, hF⟩ : ∃ F, F = K - 1 := ⟨_, rfl⟩
            rw [← hF] at hfr
            have hwF : IntKind.i64.wrap ((K : Int) - 1) = (F : Int) := by rw [IntKind.wrap_i64]; omega
            have b6 : (F : Int) < (N : Int) := by omega
            obtain ⟨g', o', he', v0, v1, v2⟩ := HRS.out.read F (by omega)
            injection he' with he'
            injection he' with e1' e2'
            subst e1' e2'
            have hFL : F < L.length := by omega
            obtain ⟨A1, hA1⟩ : ∃ A, A = (L[F]'hFL).1 := ⟨_, rfl⟩
            rw [← hA1] at v0
            have hA1s : A1 < st.size := by rw [hA1]; exact HLT.out F hFL
            have hb1 : (kl st b A1 == 0) = bb st b L F := by rw [hA1]; exact bb_beq hFL
            have e4 : (A1 : Int) < (st.size : Int) := by omega
            have HA1 := Lib.hid hA1
            clear v1 v2 hF hA1
            cases hbk : bb st b L F
            · rw [hbk, if_neg (by simp)] at hfr
              rw [hbk] at hb1
              have HFR := Lib.hid hfr
              clear hfr hbk
              go_wp2_with fail
              refine (of5_kl st b A1 hA1s V3).mono ?_
              rintro e w' ⟨rfl, rfl⟩
              obtain ⟨B, hB⟩ : ∃ B, B = (L[M]'(by omega)).2 := ⟨_, rfl⟩
              obtain ⟨g', o', he', y0, y1, y2⟩ := HRS.out.read M (by omega)
              injection he' with he'
              injection he' with e1 e2
              subst e1 e2
              rw [← hB] at y1
              have HYES : Hid (r = some (A0, B)) := by
                have gA : L.getD K (0, 0) = L[K]'(by omega) := by rw [List.getD_eq_getElem?_getD, List.getElem?_eq_getElem (by omega)]; rfl
                have gB : L.getD M (0, 0) = L[M]'(by omega) := by rw [List.getD_eq_getElem?_getD, List.getElem?_eq_getElem (by omega)]; rfl
                have h := HR.out
                rw [HGE.out, Option.map_some, HFR.out, ← HME.out, gA, gB, ← hB, ← HA0.out] at h
                exact h
              have hwM : IntKind.i64.wrap ((d : Int) - 1) = (M : Int) := by rw [IntKind.wrap_i64]; omega
              have b3 : (M : Int) < (N : Int) := by omega
              have f0 := fun z : Gr V3 => z.cell HT.out.pos.c0
              have f2 := fun z : Gr V3 => z.cell y1
              have hin := fun z : Gr V3 => in_any i A0 B z.W
              clear hB y0 y1 y2
              go_upto_region 23 with fail
              refine wp_region_grow_tail 12 (by kernel_rfl) (by kernel_rfl) ?_
              simp only [List.take_succ_cons, List.take_zero, List.drop_succ_cons, List.drop_zero]
              repeat (go_big_quiet_step (first | (go_at_call 27; exact Calls.grow_of (hin _))))
              refine wpQuiet_nil ?_
              rintro V4 ⟨⟨_, hbV4⟩, rfl⟩
              have T4 := HT.out.on hbV4
              clear f0 f2 hin hbV4
              have r0 := T4.rg.c0
              have r1 := T4.rg.c1
              have r2 := T4.rg.c2
              have r3 := T4.rg.c3
              have r4 := T4.rg.c4
              have z := T4.rg.z
              go_wp2
              obtain ⟨hg, hb⟩ := T4.ret 0 i A0 i B
              exact ret_rb (g := w.heap.size + 1) rfl rfl rfl rfl hg ⟨by rw [HYES.out]; rfl, hb⟩
            · rw [hbk, if_pos (by simp [hK0])] at hfr
              rw [hbk] at hb1
              have HFR := Lib.hid hfr
              clear hfr hbk
              go_wp2_with fail
              refine (of5_kl st b A1 hA1s V3).mono ?_
              rintro e w' ⟨rfl, rfl⟩
              obtain ⟨B, hB⟩ : ∃ B, B = (L[M]'(by omega)).2 := ⟨_, rfl⟩
              obtain ⟨g', o', he', y0, y1, y2⟩ := HRS.out.read M (by omega)
              injection he' with he'
              injection he' with e1 e2
              subst e1 e2
              rw [← hB] at y1
              have HYES : Hid (r = some (A1, B)) := by
                have gA : L.getD F (0, 0) = L[F]'(by omega) := by rw [List.getD_eq_getElem?_getD, List.getElem?_eq_getElem (by omega)]; rfl
                have gB : L.getD M (0, 0) = L[M]'(by omega) := by rw [List.getD_eq_getElem?_getD, List.getElem?_eq_getElem (by omega)]; rfl
                have h := HR.out
                rw [HGE.out, Option.map_some, HFR.out, ← HME.out, gA, gB, ← hB, ← HA1.out] at h
                exact h
              have hwM : IntKind.i64.wrap ((d : Int) - 1) = (M : Int) := by rw [IntKind.wrap_i64]; omega
              have b3 : (M : Int) < (N : Int) := by omega
              have f0 := fun z : Gr V3 => z.cell HT.out.pos.c0
              have f2 := fun z : Gr V3 => z.cell y1
              have hin := fun z : Gr V3 => in_any i A1 B z.W
              clear hB y0 y1 y2
              go_upto_region 23 with fail
              refine wp_region_grow_tail 12 (by kernel_rfl) (by kernel_rfl) ?_
              simp only [List.take_succ_cons, List.take_zero, List.drop_succ_cons, List.drop_zero]
              repeat (go_big_quiet_step (first | (go_at_call 27; exact Calls.grow_of (hin _))))
              refine wpQuiet_nil ?_
              rintro V4 ⟨⟨_, hbV4⟩, rfl⟩
              have T4 := HT.out.on hbV4
              clear f0 f2 hin hbV4
              have r0 := T4.rg.c0
              have r1 := T4.rg.c1
              have r2 := T4.rg.c2
              have r3 := T4.rg.c3
              have r4 := T4.rg.c4
              have z := T4.rg.z
              go_wp2
              obtain ⟨hg, hb⟩ := T4.ret 0 i A1 i B
              exact ret_rb (g := w.heap.size + 1) rfl rfl rfl rfl hg ⟨by rw [HYES.out]; rfl, hb⟩
  · rw [hah] at hbe
    have HAH := Lib.hid hah
    have hHR := HR.out
    rw [hah] at hHR
    have HR := Lib.hid hHR
    clear hah hHR
    go_wp2
    clear hbe x0
    go_loop [13, 17] (fun e j => ∃ d j' : Nat, e = .int .i64 d ∧ j = .int .i64 j' ∧ Hid (j' ≤ m ∧ gr st b L true j' K = some d)) (fun _ j => m - (RowKit.intOf j).toNat)
    case atStart => exact ⟨K, 0, rfl, rfl, Nat.zero_le _, rfl⟩
    case round =>
      obtain ⟨d, j, rfl, rfl, hQ⟩ := hrel
      by_cases hjm : j < m
      · have e0 : decide (j < m) = true := decide_eq_true hjm
        have e00 : (j : Int) < (m : Int) := by omega
        have hle := gr_le (s := st) (b := b) (l := L) (ah := true) (k := K) (by omega) j d hQ.out.2
        obtain ⟨J, hJ⟩ : ∃ J, J = j + 1 := ⟨_, rfl⟩
        have hwJ : IntKind.i64.wrap ((j : Int) + 1) = (J : Int) := by rw [IntKind.wrap_i64]; omega
        have HJ := Lib.hid hJ
        have hst' : gr st b L true (j + 1) K = if pb st b L d = L.length then none else some (pb st b L d + 1) := by
          rw [gr_some hQ.out.2]; unfold stp; simp only [if_true]
        by_cases hdn : d < N
        · obtain ⟨g', o', he', y0, y1, y2⟩ := HRS.out.read d (by omega)
          injection he' with he'
          injection he' with e1' e2'
          subst e1' e2'
          obtain ⟨A1, hA1⟩ : ∃ A, A = (L[d]'(by omega)).1 := ⟨_, rfl⟩
          rw [← hA1] at y0
          have hA1s : A1 < st.size := by rw [hA1]; exact HLT.out d (by omega)
          have hb1 : (kl st b A1 == 0) = bb st b L d := by rw [hA1]; exact bb_beq (by omega)
          have e2 : decide (d < N) = true := decide_eq_true hdn
          have e3 : (d : Int) < (N : Int) := by omega
          have e4 : (A1 : Int) < (st.size : Int) := by omega
          obtain ⟨D, hD⟩ : ∃ D, D = d + 1 := ⟨_, rfl⟩
          have hwD : IntKind.i64.wrap ((d : Int) + 1) = (D : Int) := by rw [IntKind.wrap_i64]; omega
          cases hbD : bb st b L d
          · rw [hbD] at hb1
            have HE : Hid (gr st b L true J K = some D) := by
              have h2 : pb st b L d = d := by unfold pb; rw [hbD]; rfl
              show gr st b L true J K = some D
              rw [hJ, hst', h2, if_neg (by omega), hD]
            have e5 : decide (N ≤ d) = false := decide_eq_false (by omega)
            have HDN := Lib.hid (And.intro hdn (And.intro hD hle))
            clear hst' hD hbD hA1 y1 y2 hJ hle
            go_wp2_with fail
            refine (of5_kl st b A1 hA1s V3).mono ?_
            rintro e w' ⟨rfl, rfl⟩
            go_wp2
            go_round
            case rel => exact ⟨D, J, rfl, rfl, by have := HJ.out; omega, HE.out⟩
            case measure => have := HJ.out; simp [RowKit.intOf]; omega
          · rw [hbD] at hb1
            have h2 : pb st b L d = D := by unfold pb; rw [hbD, hD]; rfl
            rw [h2] at hst'
            by_cases hDN : D < N
            · obtain ⟨G, hG⟩ : ∃ G, G = D + 1 := ⟨_, rfl⟩
              have hwG : IntKind.i64.wrap ((D : Int) + 1) = (G : Int) := by rw [IntKind.wrap_i64]; omega
              have HE : Hid (gr st b L true J K = some G) := by show gr st b L true J K = some G; rw [hJ, hst', if_neg (by omega), hG]
              have e5 : decide (N ≤ D) = false := decide_eq_false (by omega)
              clear hst' hD hbD hA1 y1 y2 hJ hle hG h2
              go_wp2_with fail
              refine (of5_kl st b A1 hA1s V3).mono ?_
              rintro e w' ⟨rfl, rfl⟩
              go_wp2
              go_round
              case rel => exact ⟨G, J, rfl, rfl, by have := HJ.out; omega, HE.out⟩
              case measure => have := HJ.out; simp [RowKit.intOf]; omega
            · have hnone : gr st b L true (j + 1) K = none := by rw [hst', if_pos (by omega)]
              have HNO : Hid (r = none) := by rw [HR.out, gr_none hnone m (by omega)]; rfl
              have e5 : decide (N ≤ D) = true := decide_eq_true (by omega)
              have T3 := HT.out
              clear hst' hD hbD hA1 y1 y2 hJ hle h2 hnone
              go_wp2_with fail
              refine (of5_kl st b A1 hA1s V3).mono ?_
              rintro e w' ⟨rfl, rfl⟩
              have r0 := T3.rg.c0
              have r1 := T3.rg.c1
              have r2 := T3.rg.c2
              have r3 := T3.rg.c3
              have r4 := T3.rg.c4
              have z := T3.rg.z
              go_wp2
              obtain ⟨hg, hb⟩ := T3.ret 0 0 0 0 0
              exact ret_rb (g := w.heap.size + 1) rfl rfl rfl rfl hg ⟨by rw [HNO.out]; rfl, hb⟩
        · have h2 : pb st b L d = d := by unfold pb; rw [bb_out (by omega)]; rfl
          have hnone : gr st b L true (j + 1) K = none := by rw [hst', h2, if_pos (by omega)]
          have HNO : Hid (r = none) := by rw [HR.out, gr_none hnone m (by omega)]; rfl
          have e2 : decide (d < N) = false := decide_eq_false hdn
          have e5 : decide (N ≤ d) = true := decide_eq_true (by omega)
          have T3 := HT.out
          clear hst' hJ hle h2 hnone
          have r0 := T3.rg.c0
          have r1 := T3.rg.c1
          have r2 := T3.rg.c2
          have r3 := T3.rg.c3
          have r4 := T3.rg.c4
          have z := T3.rg.z
          go_wp2
          obtain ⟨hg, hb⟩ := T3.ret 0 0 0 0 0
          exact ret_rb (g := w.heap.size + 1) rfl rfl rfl rfl hg ⟨by rw [HNO.out]; rfl, hb⟩
      · have hR9 := hQ.out
        have hjm : j = m := by omega
        have e0 : decide (j < m) = false := decide_eq_false (by omega)
        have hM1 := HM1.out
        have hgE := hR9.2
        obtain ⟨M, hM⟩ : ∃ M, M = d - 1 := ⟨_, rfl⟩
        have hle := gr_le (s := st) (b := b) (l := L) (by omega) j d hgE
        rw [hjm] at hgE hle
        have HGE := Lib.hid hgE
        have HME := Lib.hid hM
        have hEN : K + 1 ≤ d ∧ d ≤ N ∧ M + 1 = d := by omega
        have HFR := Lib.hid (HFB.out d HAH.out)
        clear hgE hM hR9 hjm hle hQ hM1
        obtain ⟨B, hB⟩ : ∃ B, B = (L[M]'(by omega)).2 := ⟨_, rfl⟩
        obtain ⟨g', o', he', y0, y1, y2⟩ := HRS.out.read M (by omega)
        injection he' with he'
        injection he' with e1 e2
        subst e1 e2
        rw [← hB] at y1
        have HYES : Hid (r = some (A0, B)) := by
          have gA : L.getD K (0, 0) = L[K]'(by omega) := by rw [List.getD_eq_getElem?_getD, List.getElem?_eq_getElem (by omega)]; rfl
          have gB : L.getD M (0, 0) = L[M]'(by omega) := by rw [List.getD_eq_getElem?_getD, List.getElem?_eq_getElem (by omega)]; rfl
          have h := HR.out
          rw [HGE.out, Option.map_some, HFR.out, ← HME.out, gA, gB, ← hB, ← HA0.out] at h
          exact h
        have hwM : IntKind.i64.wrap ((d : Int) - 1) = (M : Int) := by rw [IntKind.wrap_i64]; omega
        have b3 : (M : Int) < (N : Int) := by omega
        have f0 := fun z : Gr V3 => z.cell HT.out.pos.c0
        have f2 := fun z : Gr V3 => z.cell y1
        have hin := fun z : Gr V3 => in_any i A0 B z.W
        clear hB y0 y1 y2
        go_upto_region 23 with fail
        refine wp_region_grow_tail 12 (by kernel_rfl) (by kernel_rfl) ?_
        simp only [List.take_succ_cons, List.take_zero, List.drop_succ_cons, List.drop_zero]
        repeat (go_big_quiet_step (first | (go_at_call 27; exact Calls.grow_of (hin _))))
        refine wpQuiet_nil ?_
        rintro V4 ⟨⟨_, hbV4⟩, rfl⟩
        have T4 := HT.out.on hbV4
        clear f0 f2 hin hbV4
        have r0 := T4.rg.c0
        have r1 := T4.rg.c1
        have r2 := T4.rg.c2
        have r3 := T4.rg.c3
        have r4 := T4.rg.c4
        have z := T4.rg.z
        go_wp2
        obtain ⟨hg, hb⟩ := T4.ret 0 i A0 i B
        exact ret_rb (g := w.heap.size + 1) rfl rfl rfl rfl hg ⟨by rw [HYES.out]; rfl, hb⟩
end Go.Proofs.Ytenehehljmckbaa.Wo
