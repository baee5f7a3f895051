/-
  The law EditBack, walked.
-/
import Derived.Test.YtkddnknjjdenhaaEdv
import Derived.Test.YtkddnknjjdenhaaEdPar
set_option linter.unusedVariables false
set_option linter.unusedSimpArgs false
set_option maxRecDepth 100000
namespace Go.Proofs.Ytkddnknjjdenhaa.EdBac
open Go Go.RowKit Go.Proofs.Ytkddnknjjdenhaa.Vk Go.Proofs.Ytkddnknjjdenhaa.Str Go.Proofs.Ytkddnknjjdenhaa.Ln Go.Proofs.Ytkddnknjjdenhaa.Cl Go.Proofs.Ytkddnknjjdenhaa.Mv Go.Proofs.Ytkddnknjjdenhaa.Ed Go.Proofs.Ytkddnknjjdenhaa.EdJoi Go.Proofs.Ytkddnknjjdenhaa.EdPar
attribute [local go_sem] Oper.semAt_some

set_option maxHeartbeats 8000000 in
theorem walk (a : Option Addr) (n c' : Nat) (ls : List ByteArray) (ky x y u v m : Int) (w : World) (h : Ss w a n c' ls) (hs : ∀ s ∈ ls, s.size ≤ 140737488355328) (hk0 : (Lit.int .u8 ky).wf = true) (hx0 : (Lit.int .u16 x).wf = true) (hy0 : (Lit.int .u16 y).wf = true) (hu0 : (Lit.int .u16 u).wf = true) (hv0 : (Lit.int .u16 v).wf = true) (hm0 : (Lit.int .u8 m).wf = true) :
    Calls Try.prog 6 #[.slice a n c', .int .u8 ky, .int .u16 x, .int .u16 y, .int .u16 u, .int .u16 v, .int .u8 m] w fun e w' => e = .returned (.bool true) ∧ Below w.heap.size w w' := by
  have hk := known_any w
  have k2 : 0 ≤ ky ∧ ky ≤ 255 := by simpa [Lit.wf, IntKind.min, IntKind.max, IntKind.signed, IntKind.bits] using hk0
  have m2 : 0 ≤ m ∧ m ≤ 255 := by simpa [Lit.wf, IntKind.min, IntKind.max, IntKind.signed, IntKind.bits] using hm0
  have x2 : 0 ≤ x ∧ x ≤ 65535 := by simpa [Lit.wf, IntKind.min, IntKind.max, IntKind.signed, IntKind.bits] using hx0
  have y2 : 0 ≤ y ∧ y ≤ 65535 := by simpa [Lit.wf, IntKind.min, IntKind.max, IntKind.signed, IntKind.bits] using hy0
  have u2 : 0 ≤ u ∧ u ≤ 65535 := by simpa [Lit.wf, IntKind.min, IntKind.max, IntKind.signed, IntKind.bits] using hu0
  have v2 : 0 ≤ v ∧ v ≤ 65535 := by simpa [Lit.wf, IntKind.min, IntKind.max, IntKind.signed, IntKind.bits] using hv0
  have hlen := h.length
  have HI := Lib.hid (And.intro h (And.intro hs (And.intro x2 (And.intro y2 (And.intro u2 (And.intro v2 (And.intro hlen (And.intro k2 m2))))))))
  clear h hs hk0 hx0 hy0 hu0 hv0 hm0 x2 y2 u2 v2 k2 m2 hlen
  go_enter Try.func6, Try.ntmps6
  go_wp2_with fail
  refine hk.mono ?_
  rintro e w1 ⟨rfl, hb1⟩
  clear hk
  have ht := text_any a n c' ls w1 (SrcV.below HI.out.1 hb1) HI.out.2.1
  have HB1 := Lib.hid hb1
  clear hb1
  go_wp2_with fail
  refine ht.mono ?_
  rintro e w1' ⟨q, rfl, rfl, hq⟩
  clear ht
  have HQ := Lib.hid hq
  clear hq
  cases q with
  | false =>
    go_wp2
    go_ret
    exact ⟨rfl, HB1.out⟩
  | true =>
    obtain ⟨h0, h40, htz, _⟩ := HQ.out rfl
    have hz5 : ∀ s ∈ ls, s.size ≤ 100000 := fun s hm => by have := tz_mem ls s hm; omega
    have hn6 : n ≤ 1000000 := by omega
    have hra := range_any a n c' ls ky x y u v w1 (SrcV.below HI.out.1 HB1.out) h0 hn6 hz5 HI.out.2.2.2.2.2.2.2.1 HI.out.2.2.1 HI.out.2.2.2.1 HI.out.2.2.2.2.1 HI.out.2.2.2.2.2.1
    have HZ := Lib.hid (And.intro hz5 (And.intro hn6 htz))
    clear HQ h0 h40 htz hz5 hn6
    obtain ⟨K, hK⟩ : ∃ K, K = (ky % 3).toNat := ⟨_, rfl⟩
    rw [← hK] at hra
    have hK3 : K < 3 := by omega
    clear hK
    go_wp2_with fail
    refine hra.mono ?_
    rintro e w2 ⟨f, c, t, d, rfl, hrs, hb2⟩
    clear hra
    have hft := hrs.ft
    have htl := hrs.tn
    have htn : t < n := by have := HI.out.2.2.2.2.2.2.1; omega
    obtain ⟨M, hM⟩ : ∃ M : Nat, m.tmod 3 = (M : Int) := ⟨(m.tmod 3).toNat, by have := Int.tmod_nonneg 3 HI.out.2.2.2.2.2.2.2.2.1; omega⟩
    have hM3 : M < 3 := by have := Int.tmod_lt_of_pos m (b := 3) (by decide); omega
    have hMw : IntKind.i64.wrap ((M : Int) + 1) = ((M + 1 : Nat) : Int) := by rw [IntKind.wrap_i64]; omega
    have hMu : IntKind.i64.wrap (M : Int) = (M : Int) := by rw [IntKind.wrap_i64]; omega
    obtain ⟨P, hP⟩ : ∃ P, P = M + 1 := ⟨_, rfl⟩
    rw [← hP] at hMw
    have HP := Lib.hid (And.intro hP hM3)
    obtain ⟨W, hW⟩ : ∃ W, W = 4 * min ((P : Int).toNat) 1024 := ⟨_, rfl⟩
    have HW := Lib.hid hW
    have hsh1 : shn ls f t P false = (((f : Int), cutL ls f t, (cutL ls f t).map (sh1 false W)), true) := by
      unfold shn
      rw [if_pos ⟨by omega, by omega, by omega, by omega⟩, ← hW, Int.toNat_natCast, Int.toNat_natCast]
    obtain ⟨Y1, hY1⟩ : ∃ Y1, Y1 = (cutL ls f t).map (sh1 false W) := ⟨_, rfl⟩
    rw [← hY1] at hsh1
    have hYl : Y1.length = t + 1 - f := by rw [hY1, List.length_map, cutL_length hft htl]
    have hYt : tz Y1 ≤ 100000 := by
      have h1 := sh_tz W (cutL ls f t)
      have h2 := cutL_tz ls f t
      have h3 := HZ.out.2.2
      have h4 := tz_ge (cutL ls f t)
      have h5 : W ≤ 12 := by omega
      have h6 : W * (cutL ls f t).length ≤ 12 * (cutL ls f t).length := Nat.mul_le_mul_right _ h5
      rw [hY1]; omega
    obtain ⟨L1, hL1⟩ : ∃ L1, L1 = apl ls f t Y1 := ⟨_, rfl⟩
    have hL1l : L1.length = ls.length := by rw [hL1]; exact apl_len hft htl hYl
    have hL1t : tz L1 ≤ 1000000 := by have h1 := apl_tz ls Y1 f t; have h3 := HZ.out.2.2; rw [hL1]; omega
    have hL1c : cutL L1 f t = Y1 := by rw [hL1]; exact cut_apl hft htl hYl
    have hsh2 : shn L1 f t P true = (((f : Int), Y1, cutL ls f t), true) := by
      unfold shn
      rw [if_pos ⟨by omega, by omega, by omega, by omega⟩, ← hW, Int.toNat_natCast, Int.toNat_natCast, hL1c, hY1, sh_back_all]
    have HY := Lib.hid (And.intro hL1 (And.intro hL1l (And.intro hL1t (And.intro hYl hsh2))))
    clear hW hY1 hYt hL1 hL1l hL1t hL1c hsh2 hYl hP hM3
    have hn6 := HZ.out.2.1
    obtain ⟨V2, hV2⟩ : ∃ V2, V2 = w2.alloc (.cells #[.int .i64 K, .int .i64 f, .int .i64 c, .int .i64 t, .int .i64 d] 48) := ⟨_, rfl⟩
    obtain ⟨g0, hg0⟩ : ∃ g0, g0 = w2.heap.size := ⟨_, rfl⟩
    have hbV2 : Below w2.heap.size w2 V2 := by rw [hV2]; exact one_below _ _
    have R0 : RgAt V2 g0 K f c t d := by rw [hV2, hg0]; exact RgAt.new w2 K f c t d
    have hbb := below_on HB1.out (below_on hb2 hbV2)
    have hsa := shift_any a n c' ls f t P false V2 (SrcV.below HI.out.1 hbb) hn6 (by have := HZ.out.2.2; omega)
    rw [hsh1] at hsa
    have r1 := R0.c1
    have r3 := R0.c3
    have HR := Lib.hid (And.intro hft (And.intro htl (And.intro htn hrs)))
    have H2 := Lib.hid (And.intro hV2 (And.intro hbb R0))
    clear hft htl htn hrs hV2 hbV2 R0 hbb hb2 hsh1 hn6
    go_upto_region 6 with fail
    rw [← hg0, ← H2.out.1]
    clear hg0
    go_wp2_with fail
    clear r1 r3
    refine hsa.mono ?_
    rintro e w3 ⟨⟨f1, ⟨oa1, on1, oc1⟩, na1, nn1, nc1⟩, rfl, hc3, hb3⟩
    simp only [cv, sv]
    clear hsa
    obtain ⟨V3, hV3⟩ : ∃ V3, V3 = w3.alloc (.cells #[.int .i64 f1, .slice oa1 on1 oc1, .slice na1 nn1 nc1] 31) := ⟨_, rfl⟩
    obtain ⟨g1, hg1⟩ : ∃ g1, g1 = w3.heap.size := ⟨_, rfl⟩
    have hbV3 : Below w3.heap.size w3 V3 := by rw [hV3]; exact one_below _ _
    have a3 : ChAt V3 g1 (f1, (oa1, on1, oc1), (na1, nn1, nc1)) := by rw [hV3, hg1]; exact ChAt.new w3 (f1, (oa1, on1, oc1), (na1, nn1, nc1))
    have bb3 := below_on hb3 hbV3
    have cc3 := hc3.below hbV3
    have hf1 : f1 = f := cc3.1
    subst hf1
    obtain ⟨W3, hW3⟩ : ∃ W3, W3 = V3.alloc (.cells #[.int .i64 f, .slice oa1 on1 oc1, .slice na1 nn1 nc1] 31) := ⟨_, rfl⟩
    have hbW3 : Below V3.heap.size V3 W3 := by rw [hW3]; exact one_below _ _
    have hnn1 : nn1 = t + 1 - f := by have h1 : Y1.length = nn1 := Ss.length cc3.2.2; have := HY.out.2.2.2.1; omega
    have ca := apply_yes a n c' ls V3.heap.size f t oa1 on1 oc1 na1 nn1 nc1 Y1 W3 (SrcV.below (SrcV.below HI.out.1 H2.out.2.1) (below_on bb3 hbW3)) (by rw [hW3]; exact ChAt.new V3 ((f : Int), (oa1, on1, oc1), (na1, nn1, nc1))) (cc3.below hbW3) HR.out.1 HR.out.2.2.1 HZ.out.2.1 (by have := HR.out.1; omega) (by have := HR.out.2.2.1; have := HZ.out.2.1; omega)
    have m0 := a3.c0
    have m1 : V3.cell? ⟨g1, 1, none⟩ = some (.slice oa1 on1 oc1) := a3.c1
    have m2 : V3.cell? ⟨g1, 2, none⟩ = some (.slice na1 nn1 nc1) := a3.c2
    have H3 := Lib.hid (And.intro hV3 (And.intro hW3 (And.intro (below_on H2.out.2.1 (below_on bb3 hbW3)) (And.intro (H2.out.2.2.below (below_on bb3 hbW3) H2.out.2.2.lt) (And.intro (a3.below hbW3 a3.lt) (cc3.below hbW3))))))
    clear hV3 hW3 hbV3 hbW3 a3 bb3 cc3 hc3 hb3 hnn1
    go_upto_region 7 with fail
    rw [← hg1, ← H3.out.1]
    clear hg1
    go_wp2_with fail
    rw [← H3.out.2.1]
    clear m0 m1 m2
    refine ca.mono ?_
    rintro e w4 ⟨ra, rc, rfl, hs4, hb4⟩
    clear ca
    rw [← HY.out.1] at hs4
    rw [← HY.out.1]
    have hg0l := H3.out.2.2.2.1.lt
    have hg1l := H3.out.2.2.2.2.1.lt
    have R4 := H3.out.2.2.2.1.below hb4 hg0l
    have C4 := H3.out.2.2.2.2.1.below hb4 hg1l
    have r1 := R4.c1
    have r3 := R4.c3
    have hsb := shift_any ra L1.length rc L1 f t P true w4 hs4 (by have := HY.out.2.1; have := HI.out.2.2.2.2.2.2.1; have := HZ.out.2.1; omega) HY.out.2.2.1
    rw [HY.out.2.2.2.2] at hsb
    have H4 := Lib.hid (And.intro (below_on H3.out.2.2.1 hb4) (And.intro R4 (And.intro C4 (H3.out.2.2.2.2.2.below hb4))))
    clear hb4 R4 C4 hs4
    go_upto_region 8 with fail
    go_wp2_with fail
    clear r1 r3
    refine hsb.mono ?_
    rintro e w5 ⟨⟨f2, ⟨oa2, on2, oc2⟩, na2, nn2, nc2⟩, rfl, hc5, hb5⟩
    simp only [cv, sv]
    clear hsb
    obtain ⟨V5, hV5⟩ : ∃ V5, V5 = w5.alloc (.cells #[.int .i64 f2, .slice oa2 on2 oc2, .slice na2 nn2 nc2] 31) := ⟨_, rfl⟩
    obtain ⟨g2, hg2⟩ : ∃ g2, g2 = w5.heap.size := ⟨_, rfl⟩
    have hbV5 : Below w5.heap.size w5 V5 := by rw [hV5]; exact one_below _ _
    have a5 : ChAt V5 g2 (f2, (oa2, on2, oc2), (na2, nn2, nc2)) := by rw [hV5, hg2]; exact ChAt.new w5 (f2, (oa2, on2, oc2), (na2, nn2, nc2))
    have bb5 := below_on hb5 hbV5
    have cc5 := hc5.below hbV5
    have R5 := H4.out.2.1.below bb5 H4.out.2.1.lt
    have C5 := H4.out.2.2.1.below bb5 H4.out.2.2.1.lt
    have K5 := H4.out.2.2.2.below bb5
    have sst := strings_any na2 nn2 nc2 (cutL ls f t) oa1 on1 oc1 (cutL ls f t) V5 cc5.2.2 K5.2.1
    rw [decide_eq_true rfl] at sst
    have m2 : V5.cell? ⟨g2, 2, none⟩ = some (.slice na2 nn2 nc2) := a5.c2
    have m1 : V5.cell? ⟨g1, 1, none⟩ = some (.slice oa1 on1 oc1) := C5.c1
    have H5 := Lib.hid (And.intro hV5 (And.intro (below_on H4.out.1 bb5) R5))
    clear hV5 hbV5 a5 bb5 cc5 R5 C5 K5 hc5 hb5
    go_upto_region 9 with fail
    rw [← hg2, ← H5.out.1]
    clear hg2
    go_wp2_with fail
    refine sst.mono ?_
    rintro e w6 ⟨rfl, mm, hw6⟩
    clear sst m1 m2
    have hb6 : Below V5.heap.size V5 w6 := by rw [hw6]; exact drewN_below _ _
    have R6 := H5.out.2.2.below hb6 H5.out.2.2.lt
    have s6 := SrcV.below HI.out.1 (below_on H5.out.2.1 hb6)
    have hca := case_any a n c' ls K f c t d w6 s6 HI.out.2.1 (fun s hm => Nat.le_trans (HZ.out.1 s hm) (by decide)) (rs_vld hK3 HR.out.2.2.2) HZ.out.2.1
    rw [Int.toNat_natCast, Int.toNat_natCast] at hca
    obtain ⟨Y2, hY2⟩ : ∃ Y2, Y2 = rmd (mapB oth) ls K f c t d := ⟨_, rfl⟩
    have hY2l : Y2.length = t + 1 - f := by rw [hY2, rmd_length]; have := HR.out.1; omega
    obtain ⟨L2, hL2⟩ : ∃ L2, L2 = apl ls f t Y2 := ⟨_, rfl⟩
    have hL2l : L2.length = ls.length := by rw [hL2]; exact apl_len HR.out.1 HR.out.2.1 hY2l
    have hL2r : Rs L2 K f c t d := by rw [hL2, hY2]; exact rs_apl HR.out.2.2.2
    have hL2z : ∀ s ∈ L2, s.size ≤ 100000 := by rw [hL2, hY2]; exact apl_mem HR.out.2.2.2 HZ.out.1
    have hL2b : rmd (mapB oth) L2 K f c t d = cutL ls f t := by rw [hL2, hY2]; exact case_back HR.out.2.2.2
    have HL := Lib.hid (And.intro hL2 (And.intro hL2l (And.intro hL2r (And.intro hL2z (And.intro hL2b hY2l)))))
    rw [← hY2] at hca
    clear hY2 hY2l hL2 hL2l hL2r hL2z hL2b
    have r0 := R6.c0
    have r1 := R6.c1
    have r2 := R6.c2
    have r3 := R6.c3
    have r4 := R6.c4
    have H6 := Lib.hid (And.intro (below_on H5.out.2.1 hb6) R6)
    clear hw6 hb6 R6 s6
    go_upto_region 11 with fail
    go_wp2_with fail
    clear r0 r1 r2 r3 r4
    refine hca.mono ?_
    rintro e w7 ⟨⟨f3, ⟨oa3, on3, oc3⟩, na3, nn3, nc3⟩, rfl, hc7, hb7⟩
    simp only [cv, sv]
    clear hca
    obtain ⟨V7, hV7⟩ : ∃ V7, V7 = w7.alloc (.cells #[.int .i64 f3, .slice oa3 on3 oc3, .slice na3 nn3 nc3] 31) := ⟨_, rfl⟩
    obtain ⟨g3, hg3⟩ : ∃ g3, g3 = w7.heap.size := ⟨_, rfl⟩
    have hbV7 : Below w7.heap.size w7 V7 := by rw [hV7]; exact one_below _ _
    have a7 : ChAt V7 g3 (f3, (oa3, on3, oc3), (na3, nn3, nc3)) := by rw [hV7, hg3]; exact ChAt.new w7 (f3, (oa3, on3, oc3), (na3, nn3, nc3))
    have bb7 := below_on hb7 hbV7
    have cc7 := hc7.below hbV7
    have hf3 : f3 = f := cc7.1
    subst hf3
    obtain ⟨W7, hW7⟩ : ∃ W7, W7 = V7.alloc (.cells #[.int .i64 f, .slice oa3 on3 oc3, .slice na3 nn3 nc3] 31) := ⟨_, rfl⟩
    have hbW7 : Below V7.heap.size V7 W7 := by rw [hW7]; exact one_below _ _
    have hnn3 : nn3 = t + 1 - f := by have h1 : Y2.length = nn3 := Ss.length cc7.2.2; have := HL.out.2.2.2.2.2; omega
    have ca := apply_yes a n c' ls V7.heap.size f t oa3 on3 oc3 na3 nn3 nc3 Y2 W7 (SrcV.below (SrcV.below HI.out.1 H6.out.1) (below_on bb7 hbW7)) (by rw [hW7]; exact ChAt.new V7 ((f : Int), (oa3, on3, oc3), (na3, nn3, nc3))) (cc7.below hbW7) HR.out.1 HR.out.2.2.1 HZ.out.2.1 (by have := HR.out.1; omega) (by have := HR.out.2.2.1; have := HZ.out.2.1; omega)
    have m0 := a7.c0
    have m1 : V7.cell? ⟨g3, 1, none⟩ = some (.slice oa3 on3 oc3) := a7.c1
    have m2 : V7.cell? ⟨g3, 2, none⟩ = some (.slice na3 nn3 nc3) := a7.c2
    have H7 := Lib.hid (And.intro hV7 (And.intro hW7 (And.intro (below_on H6.out.1 (below_on bb7 hbW7)) (And.intro (H6.out.2.below (below_on bb7 hbW7) H6.out.2.lt) (And.intro (a7.below hbW7 a7.lt) (cc7.below hbW7))))))
    clear hV7 hW7 hbV7 hbW7 a7 bb7 cc7 hc7 hb7 hnn3
    go_upto_region 12 with fail
    rw [← hg3, ← H7.out.1]
    clear hg3
    go_wp2_with fail
    rw [← H7.out.2.1]
    clear m0 m1 m2
    refine ca.mono ?_
    rintro e w8 ⟨rb, re, rfl, hs8, hb8⟩
    clear ca
    rw [← HL.out.1] at hs8
    rw [← HL.out.1]
    have hg0m := H7.out.2.2.2.1.lt
    have hg3l := H7.out.2.2.2.2.1.lt
    have R8 := H7.out.2.2.2.1.below hb8 hg0m
    have C8 := H7.out.2.2.2.2.1.below hb8 hg3l
    have r0 := R8.c0
    have r1 := R8.c1
    have r2 := R8.c2
    have r3 := R8.c3
    have r4 := R8.c4
    have hcb := case_any rb L2.length re L2 K f c t d w8 hs8 (fun s hm => Nat.le_trans (HL.out.2.2.2.1 s hm) (by decide)) (fun s hm => Nat.le_trans (HL.out.2.2.2.1 s hm) (by decide)) (rs_vld hK3 HL.out.2.2.1) (by have := HL.out.2.1; have := HI.out.2.2.2.2.2.2.1; have := HZ.out.2.1; omega)
    rw [HL.out.2.2.2.2.1] at hcb
    have H8 := Lib.hid (And.intro (below_on H7.out.2.2.1 hb8) (And.intro C8 (H7.out.2.2.2.2.2.below hb8)))
    clear hb8 R8 C8 hs8
    go_upto_region 13 with fail
    go_wp2_with fail
    clear r0 r1 r2 r3 r4
    refine hcb.mono ?_
    rintro e w9 ⟨⟨f4, ⟨oa4, on4, oc4⟩, na4, nn4, nc4⟩, rfl, hc9, hb9⟩
    simp only [cv, sv]
    clear hcb
    obtain ⟨V9, hV9⟩ : ∃ V9, V9 = w9.alloc (.cells #[.int .i64 f4, .slice oa4 on4 oc4, .slice na4 nn4 nc4] 31) := ⟨_, rfl⟩
    obtain ⟨g4, hg4⟩ : ∃ g4, g4 = w9.heap.size := ⟨_, rfl⟩
    have hbV9 : Below w9.heap.size w9 V9 := by rw [hV9]; exact one_below _ _
    have a9 : ChAt V9 g4 (f4, (oa4, on4, oc4), (na4, nn4, nc4)) := by rw [hV9, hg4]; exact ChAt.new w9 (f4, (oa4, on4, oc4), (na4, nn4, nc4))
    have bb9 := below_on hb9 hbV9
    have cc9 := hc9.below hbV9
    have C9 := H8.out.2.1.below bb9 H8.out.2.1.lt
    have K9 := H8.out.2.2.below bb9
    have sst := strings_any na4 nn4 nc4 (cutL ls f t) oa3 on3 oc3 (cutL ls f t) V9 cc9.2.2 K9.2.1
    rw [decide_eq_true rfl] at sst
    have m2 : V9.cell? ⟨g4, 2, none⟩ = some (.slice na4 nn4 nc4) := a9.c2
    have m1 : V9.cell? ⟨g3, 1, none⟩ = some (.slice oa3 on3 oc3) := C9.c1
    have H9 := Lib.hid (And.intro hV9 (below_on H8.out.1 bb9))
    clear hV9 hbV9 a9 bb9 cc9 C9 K9 hc9 hb9
    go_upto_region 14 with fail
    rw [← hg4, ← H9.out.1]
    clear hg4
    go_wp2_with fail
    refine sst.mono ?_
    rintro e w10 ⟨rfl, mz, hw10⟩
    clear sst m1 m2
    have hb10 : Below V9.heap.size V9 w10 := by rw [hw10]; exact drewN_below _ _
    have HF := Lib.hid (below_on H9.out.2 hb10)
    clear hw10 hb10
    go_wp2
    go_ret
    exact ⟨rfl, HF.out⟩
end Go.Proofs.Ytkddnknjjdenhaa.EdBac
