/-
  The chapter's example (the help `known` of layer 20's laws).
-/
import Derived.Test.YtkddnknjjdenhaaEdc
set_option linter.unusedVariables false
set_option linter.unusedSimpArgs false
set_option maxRecDepth 100000
namespace Go.Proofs.Ytkddnknjjdenhaa.Ed
open Go Go.RowKit Go.Proofs.Ytkddnknjjdenhaa.Vk Go.Proofs.Ytkddnknjjdenhaa.Str Go.Proofs.Ytkddnknjjdenhaa.Ln Go.Proofs.Ytkddnknjjdenhaa.Cl Go.Proofs.Ytkddnknjjdenhaa.Mv
attribute [local go_sem] Oper.semAt_some

abbrev exl : List ByteArray := [⟨#[97]⟩, ⟨#[98]⟩]
theorem exl_size : ∀ s ∈ exl, s.size ≤ 140737488355328 := by
  intro s hs
  simp only [exl, List.mem_cons, List.not_mem_nil, or_false] at hs
  rcases hs with rfl | rfl <;> decide
abbrev exm : List ByteArray := [⟨#[120]⟩, ⟨#[121]⟩]
theorem exm_size : ∀ s ∈ exm, s.size ≤ 140737488355328 := by
  intro s hs
  simp only [exm, List.mem_cons, List.not_mem_nil, or_false] at hs
  rcases hs with rfl | rfl <;> decide
theorem lit2 (w : World) (x y : ByteArray) : Ss (w.alloc (.cells #[.string x, .string y] ES)) (some ⟨w.heap.size, 0, none⟩) 2 2 [x, y] :=
  SrcV.lit w #[.string x, .string y] ES 2 rfl (by simp [Value.oneCell']) (by simp [maxLen])
theorem lit1 (w : World) (x : ByteArray) : Ss (w.alloc (.cells #[.string x] ES)) (some ⟨w.heap.size, 0, none⟩) 1 1 [x] :=
  SrcV.lit w #[.string x] ES 1 rfl (by simp [Value.oneCell']) (by simp [maxLen])
theorem ex_join : jan exl 0 2 = ((0, exl, [⟨#[97, 32, 98]⟩]), 1, true) := by decide +kernel
theorem ex_write : wrt exl 0 1 exm = ((0, [⟨#[97]⟩], [⟨#[97, 120]⟩, ⟨#[121]⟩]), (1, 1), true) := by decide +kernel
theorem ex_cut : ((((0 : Nat) : Int), cutL exl 0 1, [(lineAt exl 0).extract 0 0 ++ (lineAt exl 1).extract 0 (lineAt exl 1).size]) : Ch) = (0, exl, [⟨#[98]⟩]) := by decide +kernel
theorem ex_over : ¬ oOk exl 0 0 2 := by decide +kernel

set_option maxHeartbeats 4000000 in
theorem known_any (w : World) : Calls Try.prog 9 #[] w fun e w' => e = .returned (.bool true) ∧ Below w.heap.size w w' := by
  obtain ⟨w0, hw0⟩ : ∃ w0, w0 = w.alloc (.cells #[.string ⟨#[97]⟩, .string ⟨#[98]⟩] 9) := ⟨_, rfl⟩
  have s0 : Ss w0 (some ⟨w.heap.size, 0, none⟩) 2 2 exl := by rw [hw0]; exact lit2 w _ _
  have hb0 : Below w.heap.size w w0 := by rw [hw0]; exact one_below _ _
  have H0 := Lib.hid (And.intro hw0 (And.intro s0 hb0))
  have c1 := join_any (some ⟨w.heap.size, 0, none⟩) 2 2 exl 0 2 w0 s0 (by omega) (by decide) (by omega)
  rw [ex_join] at c1
  clear hw0 s0 hb0
  go_enter Try.func9, Try.ntmps9
  go_wp2_with fail
  rw [← H0.out.1]
  refine c1.mono ?_
  rintro e w1 ⟨⟨f1, ⟨oa1, on1, oc1⟩, na1, nn1, nc1⟩, rfl, hc1, hb1⟩
  clear c1
  simp only [cv, sv]
  obtain ⟨V1, hV1⟩ : ∃ V1, V1 = w1.alloc (.cells #[.int .i64 f1, .slice oa1 on1 oc1, .slice na1 nn1 nc1] 31) := ⟨_, rfl⟩
  obtain ⟨g1, hg1⟩ : ∃ g1, g1 = w1.heap.size := ⟨_, rfl⟩
  have hbV1 : Below w1.heap.size w1 V1 := by rw [hV1]; exact one_below _ _
  have a1 : ChAt V1 g1 (f1, (oa1, on1, oc1), (na1, nn1, nc1)) := by rw [hV1, hg1]; exact ChAt.new w1 (f1, (oa1, on1, oc1), (na1, nn1, nc1))
  have b1 := below_on H0.out.2.2 (below_on hb1 hbV1)
  have s1 := SrcV.below H0.out.2.1 (below_on hb1 hbV1)
  have cc1 := hc1.below hbV1
  have c2 := cut_char (some ⟨w.heap.size, 0, none⟩) 2 2 exl 0 0 1 0 V1 s1 exl_size (by omega) (by decide +kernel) (by omega) (by omega) (by decide) (by decide)
  rw [ex_cut] at c2
  have H1 := Lib.hid (And.intro hV1 (And.intro s1 (And.intro b1 (And.intro a1 cc1))))
  have HG1 := Lib.hid hg1
  clear hV1 hbV1 a1 b1 s1 cc1 hc1 hb1
  go_upto_region 3 with fail
  rw [← hg1, ← H1.out.1]
  clear hg1
  go_wp2_with fail
  refine c2.mono ?_
  rintro e w2 ⟨⟨f2, ⟨oa2, on2, oc2⟩, na2, nn2, nc2⟩, rfl, hc2, hb2⟩
  clear c2
  simp only [cv, sv]
  obtain ⟨V2, hV2⟩ : ∃ V2, V2 = w2.alloc (.cells #[.int .i64 f2, .slice oa2 on2 oc2, .slice na2 nn2 nc2] 31) := ⟨_, rfl⟩
  obtain ⟨g2, hg2⟩ : ∃ g2, g2 = w2.heap.size := ⟨_, rfl⟩
  have hbV2 : Below w2.heap.size w2 V2 := by rw [hV2]; exact one_below _ _
  have a2 : ChAt V2 g2 (f2, (oa2, on2, oc2), (na2, nn2, nc2)) := by rw [hV2, hg2]; exact ChAt.new w2 (f2, (oa2, on2, oc2), (na2, nn2, nc2))
  have bb2 := below_on hb2 hbV2
  obtain ⟨Z2, hZ2⟩ : ∃ Z2, Z2 = V2.alloc (.cells #[.string ⟨#[120]⟩, .string ⟨#[121]⟩] 9) := ⟨_, rfl⟩
  have bz2 : Below V2.heap.size V2 Z2 := by rw [hZ2]; exact one_below _ _
  have m2 : Ss Z2 (some ⟨V2.heap.size, 0, none⟩) 2 2 exm := by rw [hZ2]; exact lit2 V2 _ _
  have bq2 := below_on bb2 bz2
  have s2 := SrcV.below H1.out.2.1 bq2
  have c3 := write_any (some ⟨w.heap.size, 0, none⟩) 2 2 exl 0 1 (some ⟨V2.heap.size, 0, none⟩) 2 2 exm Z2 s2 exl_size m2 exm_size (by omega) (by omega)
  rw [ex_write] at c3
  have H2 := Lib.hid (And.intro hV2 (And.intro hZ2 (And.intro s2 (And.intro (below_on H1.out.2.2.1 bq2) (And.intro (H1.out.2.2.2.1.below bq2 H1.out.2.2.2.1.lt) (And.intro (H1.out.2.2.2.2.below bq2) (And.intro (a2.below bz2 a2.lt) (hc2.below (below_on hbV2 bz2)))))))))
  clear hV2 hbV2 a2 bb2 hc2 hb2 bz2 m2 bq2 s2 hZ2
  go_upto_region 4 with fail
  rw [← hg2, ← H2.out.1]
  clear hg2
  go_wp2_with fail
  rw [← H2.out.2.1]
  refine c3.mono ?_
  rintro e w3 ⟨⟨f3, ⟨oa3, on3, oc3⟩, na3, nn3, nc3⟩, rfl, hc3, hb3⟩
  clear c3
  simp only [cv, sv]
  obtain ⟨V3, hV3⟩ : ∃ V3, V3 = (w3.alloc (.cells #[.int .i64 f3, .slice oa3 on3 oc3, .slice na3 nn3 nc3] 31)).alloc (.cells #[.int .i64 1, .int .i64 1] 24) := ⟨_, rfl⟩
  obtain ⟨g3, hg3⟩ : ∃ g3, g3 = w3.heap.size := ⟨_, rfl⟩
  have hbV3 : Below w3.heap.size w3 V3 := by rw [hV3]; exact two_below _ _ _
  have a3 : ChAt V3 g3 (f3, (oa3, on3, oc3), (na3, nn3, nc3)) := by rw [hV3, hg3]; exact (ChAt.new w3 (f3, (oa3, on3, oc3), (na3, nn3, nc3))).below (one_below _ _) (by simp)
  have p3 : PosAt V3 (g3 + 1) 1 1 := by rw [hV3, hg3]; exact two_new w3 _ _
  have bb3 := below_on hb3 hbV3
  have s3 := SrcV.below H2.out.2.2.1 bb3
  have c4 := over_no (some ⟨w.heap.size, 0, none⟩) 2 2 exl 0 0 122 2 V3 s3 exl_size ex_over
  have H3 := Lib.hid (And.intro hV3 (And.intro s3 (And.intro (below_on H2.out.2.2.2.1 bb3) (And.intro (H2.out.2.2.2.2.1.below bb3 H2.out.2.2.2.2.1.lt) (And.intro (H2.out.2.2.2.2.2.1.below bb3) (And.intro (H2.out.2.2.2.2.2.2.1.below bb3 H2.out.2.2.2.2.2.2.1.lt) (And.intro (H2.out.2.2.2.2.2.2.2.below bb3) (And.intro a3 (And.intro (hc3.below hbV3) p3)))))))))
  clear hV3 hbV3 a3 bb3 hc3 hb3 s3 p3
  go_upto_region 5 with fail
  rw [← hg3, ← H3.out.1]
  clear hg3
  go_wp2_with fail
  refine c4.mono ?_
  rintro e w4 ⟨⟨f4, ⟨oa4, on4, oc4⟩, na4, nn4, nc4⟩, rfl, hc4, hb4⟩
  clear c4
  simp only [cv, sv]
  obtain ⟨V4, hV4⟩ : ∃ V4, V4 = w4.alloc (.cells #[.int .i64 f4, .slice oa4 on4 oc4, .slice na4 nn4 nc4] 31) := ⟨_, rfl⟩
  have hbV4 : Below w4.heap.size w4 V4 := by rw [hV4]; exact one_below _ _
  have bb4 := below_on hb4 hbV4
  have a1 := H3.out.2.2.2.1.below bb4 H3.out.2.2.2.1.lt
  have k1 := H3.out.2.2.2.2.1.below bb4
  have a2 := H3.out.2.2.2.2.2.1.below bb4 H3.out.2.2.2.2.2.1.lt
  have k2 := H3.out.2.2.2.2.2.2.1.below bb4
  have a3 := H3.out.2.2.2.2.2.2.2.1.below bb4 H3.out.2.2.2.2.2.2.2.1.lt
  have k3 := H3.out.2.2.2.2.2.2.2.2.1.below bb4
  have p3 := H3.out.2.2.2.2.2.2.2.2.2.below bb4 H3.out.2.2.2.2.2.2.2.2.2.lt
  have s4 := SrcV.below H3.out.2.1 bb4
  have b4 := below_on H3.out.2.2.1 bb4
  have n3 : nn3 = 2 := (Ss.length k3.2.2).symm.trans rfl |>.trans rfl
  have H4 := Lib.hid (And.intro hV4 (And.intro s4 (And.intro b4 (And.intro a1 (And.intro k1 (And.intro a2 (And.intro k2 (And.intro a3 (And.intro k3 p3)))))))))
  clear hV4 hbV4 bb4 a1 k1 a2 k2 a3 k3 p3 s4 b4 hc4 hb4
  go_upto_region 6 with fail
  rw [← H4.out.1]
  obtain ⟨m0, m1, m2⟩ := And.intro H4.out.2.2.2.1.c0 (And.intro H4.out.2.2.2.1.c1 H4.out.2.2.2.1.c2)
  obtain ⟨Z4, hZ4⟩ : ∃ Z4, Z4 = V4.alloc (.cells #[.string ⟨#[97, 32, 98]⟩] 9) := ⟨_, rfl⟩
  have bz4 : Below V4.heap.size V4 Z4 := by rw [hZ4]; exact one_below _ _
  have l4 : Ss Z4 (some ⟨V4.heap.size, 0, none⟩) 1 1 [⟨#[97, 32, 98]⟩] := by rw [hZ4]; exact lit1 V4 _
  have c5 := change_any f1 oa1 on1 oc1 na1 nn1 nc1 0 (some ⟨w.heap.size, 0, none⟩) 2 2 (some ⟨V4.heap.size, 0, none⟩) 1 1 (0, exl, [⟨#[97, 32, 98]⟩]) (0, exl, [⟨#[97, 32, 98]⟩]) Z4 (H4.out.2.2.2.2.1.below bz4) ⟨rfl, SrcV.below H4.out.2.1 bz4, l4⟩
  rw [decide_eq_true rfl] at c5
  have HZ4 := Lib.hid (And.intro hZ4 bz4)
  clear hZ4 bz4 l4
  simp only [sv] at m1 m2
  go_wp2_with fail
  rw [← HZ4.out.1]
  refine c5.mono ?_
  rintro e w5 ⟨rfl, hb5⟩
  clear c5 m0 m1 m2
  have bb5 := below_on HZ4.out.2 hb5
  have q2 := (H4.out.2.2.2.2.2.1.below bb5 H4.out.2.2.2.2.2.1.lt).c2
  obtain ⟨Z5, hZ5⟩ : ∃ Z5, Z5 = w5.alloc (.cells #[.string ⟨#[98]⟩] 9) := ⟨_, rfl⟩
  have bz5 : Below w5.heap.size w5 Z5 := by rw [hZ5]; exact one_below _ _
  have l5 : Ss Z5 (some ⟨w5.heap.size, 0, none⟩) 1 1 [⟨#[98]⟩] := by rw [hZ5]; exact lit1 w5 _
  have bb6 := below_on bb5 bz5
  have c6 := strings_any na2 nn2 nc2 [⟨#[98]⟩] (some ⟨w5.heap.size, 0, none⟩) 1 1 [⟨#[98]⟩] Z5 (H4.out.2.2.2.2.2.2.1.below bb6).2.2 l5
  rw [decide_eq_true rfl] at c6
  have HZ5 := Lib.hid (And.intro hZ5 bb6)
  clear hZ5 bz5 l5 bb5 hb5 bb6
  simp only [sv] at q2
  go_wp2_with fail
  rw [← HZ5.out.1]
  refine c6.mono ?_
  rintro e w6 ⟨rfl, m6, rfl⟩
  clear c6 q2
  have bb7 := below_on HZ5.out.2 (drewN_below Z5 m6)
  have p3 := H4.out.2.2.2.2.2.2.2.2.2.below bb7 H4.out.2.2.2.2.2.2.2.2.2.lt
  have r0 := p3.c0
  have r1 := p3.c1
  have u2 := (H4.out.2.2.2.2.2.2.2.1.below bb7 H4.out.2.2.2.2.2.2.2.1.lt).c2
  have he := fun W => So.eq_pos 1 1 1 1 W
  have HE := Lib.hid (below_on H4.out.2.2.1 bb7)
  clear bb7 p3
  simp only [sv] at u2
  subst n3
  go_wp2
  go_ret
  exact ⟨rfl, HE.out⟩
end Go.Proofs.Ytkddnknjjdenhaa.Ed
