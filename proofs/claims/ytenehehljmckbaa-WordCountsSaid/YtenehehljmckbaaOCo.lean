/-
  The law WordCounts, walked.
-/
import Derived.Test.YtenehehljmckbaaOKn
set_option linter.unusedVariables false
set_option linter.unusedSimpArgs false
set_option maxRecDepth 100000
namespace Go.Proofs.Ytenehehljmckbaa.OCo
open Go Go.RowKit Go.Proofs.Ytenehehljmckbaa.Vk Go.Proofs.Ytenehehljmckbaa.Str Go.Proofs.Ytenehehljmckbaa.Ln Go.Proofs.Ytenehehljmckbaa.Cl Go.Proofs.Ytenehehljmckbaa.Mv Go.Proofs.Ytenehehljmckbaa.Wo
attribute [local go_sem] Oper.semAt_some
set_option maxHeartbeats 8000000

theorem walk (s : ByteArray) (x q : Int) (b : Bool) (w : World) (hs : s.size ≤ 140737488355328) (hx : (Lit.int .u16 x).wf = true) (hq0 : (Lit.int .u8 q).wf = true) :
    Calls Try.prog 5 #[.string s, .int .u16 x, .int .u8 q, .bool b] w fun e w' => e = .returned (.bool true) ∧ Below w.heap.size w w' := by
  have hk := known_any w
  have x2 : 0 ≤ x ∧ x ≤ 65535 := by simpa [Lit.wf, IntKind.min, IntKind.max, IntKind.signed, IntKind.bits] using hx
  have q2 : 0 ≤ q ∧ q ≤ 255 := by simpa [Lit.wf, IntKind.min, IntKind.max, IntKind.signed, IntKind.bits] using hq0
  obtain ⟨G, hG, hG5⟩ : ∃ G : Nat, q % 12 = (G : Int) ∧ G < 12 := ⟨(q % 12).toNat, by omega, by omega⟩
  have hGt : q.tmod 12 = (G : Int) := by rw [Int.tmod_eq_emod_of_nonneg q2.1]; exact hG
  have hwG : IntKind.i64.wrap (G : Int) = (G : Int) := by rw [IntKind.wrap_i64]; omega
  obtain ⟨C, hC1, hC2⟩ : ∃ C, G + 1 ≤ C ∧ C ≤ G + 1 := ⟨G + 1, by omega, by omega⟩
  have hwC : IntKind.i64.wrap ((G : Int) + 1) = (C : Int) := by rw [IntKind.wrap_i64]; omega
  have hwx : IntKind.i64.wrap x = x := by rw [IntKind.wrap_i64]; omega
  go_enter Try.func5, Try.ntmps5
  go_wp2_with fail
  refine hk.mono ?_
  rintro e w1 ⟨rfl, hb1⟩
  have HB1 := Lib.hid hb1
  clear hk hb1
  by_cases h100 : 100 < s.size
  · have d0 : decide (100 < s.size) = true := decide_eq_true h100
    have d1 : decide ((100 : Int) < (s.size : Int)) = true := decide_eq_true (by omega)
    clear h100
    go_wp2
    go_ret
    exact ⟨rfl, HB1.out⟩
  have d0 : decide (100 < s.size) = false := decide_eq_false h100
  have d1 : decide ((100 : Int) < (s.size : Int)) = false := decide_eq_false (by omega)
  by_cases hz : s.size = 0
  · have e1 := empty_of_zero hz
    clear h100 hz
    go_wp2
    go_ret
    exact ⟨rfl, HB1.out⟩
  have e1 := empty_of_pos (x := s) (by omega)
  have hsz : 0 < s.size ∧ s.size ≤ 100 := by omega
  have HSZ := Lib.hid hsz
  have hm1 : ∀ t ∈ [s], t.size ≤ 1000000 := fun t ht => by
    simp only [List.mem_cons, List.not_mem_nil, or_false] at ht
    rw [ht]; omega
  have hm2 : ∀ t ∈ [s], t.size ≤ 140737488355328 := fun t ht => Nat.le_trans (hm1 t ht) (by omega)
  clear h100 hz hsz
  go_wp2_with fail
  have hl : Ss (w1.alloc (.cells #[.string s] 9)) (some ⟨w1.heap.size, 0, none⟩) 1 1 [s] := SrcV.lit w1 #[.string s] 9 1 rfl (by simp [Value.oneCell']) (by simp [maxLen])
  refine (light_any _ 1 1 [s] _ hl hm2).mono ?_
  rintro e w' ⟨qq, rfl, rfl, hq⟩
  have D0 := Lib.hid ((Below.refl _ w1).alloc (Nat.le_refl _) (.cells #[.string s] 9))
  obtain ⟨w2, hw2⟩ : ∃ v, v = w1.alloc (.cells #[.string s] 9) := ⟨_, rfl⟩
  rw [← hw2] at D0 ⊢
  clear hl hw2 hq
  cases qq
  · go_wp2
    go_ret
    exact ⟨rfl, below_on HB1.out D0.out⟩
  -- the place's column
  obtain ⟨c, hc⟩ : ∃ c : Nat, x.tmod (s.size : Int) = (c : Int) ∧ c < s.size := by
    have := HSZ.out
    have h1 := Int.tmod_lt_of_pos x (show (0 : Int) < (s.size : Int) by omega)
    have h2 := Int.tmod_nonneg (b := (s.size : Int)) x2.1
    exact ⟨(x.tmod (s.size : Int)).toNat, by omega, by omega⟩
  have hct := hc.1
  have hcs := hc.2
  have hxs : x % (s.size : Int) = (c : Int) := by rw [← hct, Int.tmod_eq_emod_of_nonneg x2.1]
  have hwc : IntKind.i64.wrap (c : Int) = (c : Int) := by rw [IntKind.wrap_i64]; have := HSZ.out; omega
  have hz0 : ((s.size : Int) == 0) = false := by rw [beq_eq_false_iff_ne]; have := HSZ.out; omega
  have hz1 : ¬ (s.size : Int) = 0 := by have := HSZ.out; omega
  have hz2 : ¬ s.size = 0 := by have := HSZ.out; omega
  obtain ⟨x4, hx4⟩ : ∃ v, v = (w2.alloc (.cells #[.string s] 9)).alloc (.cells #[.int .i64 0, .int .i64 (c : Int)] 36) := ⟨_, rfl⟩
  have hb4 : Below w2.heap.size w2 x4 := by rw [hx4]; exact two_below _ _ _
  have hl4 : Ss x4 (some ⟨w2.heap.size, 0, none⟩) 1 1 [s] := by
    rw [hx4]
    exact SrcV.below (SrcV.lit w2 #[.string s] 9 1 rfl (by simp [Value.oneCell']) (by simp [maxLen])) ((Below.refl _ _).alloc (Nat.le_refl _) _)
  have hP : PosAt x4 (w2.heap.size + 1) 0 c := by rw [hx4]; exact two_new w2 _ _
  have HX4 := Lib.hid hx4
  have D := Lib.hid (below_on D0.out hb4)
  have HL := Lib.hid hl4
  have HP := Lib.hid hP
  clear hx4 hb4 hl4 hP D0 hc d0 d1 e1
  go_upto_region 7 with fail
  rw [← HX4.out]
  clear hct hxs hwc hz0 hz1 hz2 hwx
  go_wp2_with fail
  refine (runs15_any s b x4 (by have := HSZ.out; omega)).mono ?_
  rintro e w5 ⟨bW, N, cW, rfl, hO⟩
  have hrg := rs_rg (s := s) (b := b)
  obtain ⟨K, hAt⟩ := hrg.at hcs
  have hcn := hAt.cn hrg
  have hll := hrg.len
  have PW := Lib.hid hO.rs
  have hNl := hO.len
  have hb5 := hO.bel
  have D := Lib.hid (below_on D.out hb5)
  have HL := Lib.hid (SrcV.below HL.out hb5)
  have HP := Lib.hid (HP.out.below hb5 HP.out.lt)
  have hin := innA_yes (b := b) (ls := [s]) (i := 0) (k := c) (m := C) (On.of (by simp) (.inl hcs)) (by omega)
  rw [show lineAt [s] 0 = s from rfl, hcn] at hin
  obtain ⟨L, hL⟩ : ∃ L, L = rs s b := ⟨_, rfl⟩
  rw [← hL] at PW hin hAt hNl hll
  have hKl := hAt.lt
  have HA := Lib.hid hAt
  have HI := Lib.hid hin
  have hN : N ≤ 100 := by have := HSZ.out; omega
  have hKN : K < N := by omega
  have HLN := Lib.hid hNl
  clear hO hb5 hrg hAt hcn hll hL hin hNl hKl
  go_wp2
  go_loopw [12] (fun i wr => ∃ j : Nat, i = .int .i64 j ∧ Hid (j ≤ K ∧ Below w5.heap.size w5 wr)) (fun i _ => K - (RowKit.intOf i).toNat)
  case atStart => exact ⟨0, rfl, Nat.zero_le _, Below.refl _ _⟩
  case round =>
    obtain ⟨j, rfl, hR⟩ := hrel
    obtain ⟨hjK, hbr⟩ := hR.out
    have hjl : j < L.length := by have := HLN.out; omega
    obtain ⟨g, o, rfl, y0, y1, hnc⟩ := (PW.out.below hbr).read j hjl
    have hP := HP.out.below hbr HP.out.lt
    have f0 := fun z : Gr wr => z.cell y1
    have f1 := fun z : Gr wr => z.cell hP.c1
    have b1 : (j : Int) < (N : Int) := by have := HLN.out; omega
    obtain ⟨B, hB⟩ : ∃ B, B = (L[j]'hjl).2 := ⟨_, rfl⟩
    rw [← hB] at f0
    by_cases hj : j < K
    · have hle : B ≤ c := by rw [hB]; exact HA.out.old j hj
      have e0 : decide (B ≤ c) = true := decide_eq_true hle
      have e00 : decide ((B : Int) ≤ (c : Int)) = true := decide_eq_true (by omega)
      obtain ⟨M, hM⟩ : ∃ M, M = j + 1 := ⟨_, rfl⟩
      have hwM : IntKind.i64.wrap ((j : Int) + 1) = (M : Int) := by rw [IntKind.wrap_i64]; omega
      have HM := Lib.hid hM
      clear y0 y1 hP hB hle hM hbr
      go_upto_region 9 with fail
      refine wp_region_grow (by kernel_rfl) (by kernel_rfl) ?_
      repeat (go_big_quiet_step (fail))
      refine wpQuiet_nil ?_
      rintro X5 ⟨⟨_, hX5⟩, rfl⟩
      clear f0 f1
      go_wp2
      go_roundw
      case rel => exact ⟨M, rfl, by have := HM.out; omega, hR.out.2.trans (hX5.mono hR.out.2.size)⟩
      case measure => have := HM.out; simp [RowKit.intOf]; omega
    · obtain rfl : j = K := by omega
      have hle : ¬ B ≤ c := by rw [hB]; have := HA.out.snd; omega
      have e0 : decide (B ≤ c) = false := decide_eq_false hle
      have e00 : decide ((B : Int) ≤ (c : Int)) = false := decide_eq_false (by omega)
      clear y0 y1 hP hB hle hbr
      go_upto_region 9 with fail
      refine wp_region_grow (by kernel_rfl) (by kernel_rfl) ?_
      repeat (go_big_quiet_step (fail))
      refine wpQuiet_nil ?_
      rintro X5 ⟨⟨_, hX5⟩, rfl⟩
      have hb6 := hR.out.2.trans (hX5.mono hR.out.2.size)
      have D := Lib.hid (below_on D.out hb6)
      have PW := Lib.hid (PW.out.below hb6)
      have HL := Lib.hid (SrcV.below HL.out hb6)
      have hP := HP.out.below hb6 HP.out.lt
      have P0 := hP.c0
      have P1 := hP.c1
      have hia := inner_any _ 1 1 [s] 0 c C b X5 HL.out hm1
      clear f0 f1 hb6 hX5 hR e0 e00
      by_cases hKC : j + C ≤ L.length
      · have hv : anV (0 : Int).toNat (innA [s] b 0 c C) = .tuple #[.agg #[.int .i64 0, .int .i64 0, .int .i64 (L[j]'hjl).1, .int .i64 0, .int .i64 (L[j + C - 1]'(by omega)).2], .bool true] := by
          rw [show ((0 : Int)) = ((0 : Nat) : Int) from rfl, HI.out]
          unfold innL
          rw [if_pos hKC, List.getD_eq_getElem?_getD, List.getElem?_eq_getElem hjl, List.getD_eq_getElem?_getD, List.getElem?_eq_getElem (show j + C - 1 < L.length by omega)]
          rfl
        rw [hv] at hia
        obtain ⟨E, hE⟩ : ∃ E, E = j + C := ⟨_, rfl⟩
        obtain ⟨M, hM⟩ : ∃ M, M = j + C - 1 := ⟨_, rfl⟩
        have hwE : IntKind.i64.wrap ((j : Int) + (C : Int)) = (E : Int) := by rw [IntKind.wrap_i64]; omega
        have hwM : IntKind.i64.wrap ((E : Int) - 1) = (M : Int) := by rw [IntKind.wrap_i64]; omega
        have hEN : E ≤ N := by have := HLN.out; omega
        have d0 : decide (E ≤ N) = true := decide_eq_true hEN
        have d1 : decide ((E : Int) ≤ (N : Int)) = true := decide_eq_true (by omega)
        have b3 : (M : Int) < (N : Int) := by omega
        have hMl : M < L.length := by omega
        obtain ⟨A1, hA1⟩ : ∃ A, A = (L[j]'hjl).1 := ⟨_, rfl⟩
        obtain ⟨B1, hB1⟩ : ∃ B, B = (L[M]'hMl).2 := ⟨_, rfl⟩
        have hB2 : (L[j + C - 1]'(by omega)).2 = B1 := by rw [hB1]; congr 2; omega
        rw [← hA1, hB2] at hia
        have HAB := Lib.hid (And.intro hA1 hB1)
        clear hv hE hM hA1 hB1 hB2 hKC hnc
        go_wp2_with fail
        refine hia.mono ?_
        rintro e w7 ⟨rfl, hb7⟩
        have D := Lib.hid (below_on D.out hb7)
        have PW := Lib.hid (PW.out.below hb7)
        clear hia P0 P1 hP
        go_upto_region 13 with fail
        obtain ⟨x8, hx8⟩ : ∃ v, v = w7.alloc (.cells #[.int .i64 0, .int .i64 0, .int .i64 (A1 : Int), .int .i64 0, .int .i64 (B1 : Int)] 43) := ⟨_, rfl⟩
        have hb8 : Below w7.heap.size w7 x8 := by rw [hx8]; exact (Below.refl _ w7).alloc (Nat.le_refl _) _
        have hV := RgAt.new w7 0 0 A1 0 B1
        rw [← hx8] at hV ⊢
        have D := Lib.hid (below_on D.out hb8)
        have PW := Lib.hid (PW.out.below hb8)
        obtain ⟨bR, hbR⟩ : ∃ v, v = w7.heap.size := ⟨_, rfl⟩
        rw [← hbR] at hV ⊢
        clear hx8 hb8 hb7 hbR
        obtain ⟨g', o', he', z0, z1, z2⟩ := PW.out.read j hjl
        injection he' with he'
        injection he' with e1' e2'
        subst e1' e2'
        obtain ⟨g', o', he', u0, u1, u2⟩ := PW.out.read M hMl
        injection he' with he'
        injection he' with e1' e2'
        subst e1' e2'
        rw [← HAB.out.1] at z0
        rw [← HAB.out.2] at u1
        have f0 := fun z : Gr x8 => z.cell hV.c0
        have f1 := fun z : Gr x8 => z.cell hV.c1
        have f2 := fun z : Gr x8 => z.cell hV.c2
        have f4 := fun z : Gr x8 => z.cell hV.c4
        have f5 := fun z : Gr x8 => z.cell z0
        have f6 := fun z : Gr x8 => z.cell u1
        clear hV z0 z1 z2 u0 u1 u2
        go_upto_region 15 with fail
        refine wp_region_grow (by kernel_rfl) (by kernel_rfl) ?_
        repeat (go_big_quiet_step (fail))
        refine wpQuiet_nil ?_
        rintro X9 ⟨⟨_, hX9⟩, rfl⟩
        clear f0 f1 f2 f4 f5 f6
        go_wp2
        go_ret
        exact ⟨rfl, below_on HB1.out (below_on D.out hX9)⟩
      · have hv : anV (0 : Int).toNat (innA [s] b 0 c C) = .tuple #[.agg #[.int .i64 0, .int .i64 0, .int .i64 0, .int .i64 0, .int .i64 0], .bool false] := by
          rw [show ((0 : Int)) = ((0 : Nat) : Int) from rfl, HI.out]
          unfold innL
          rw [if_neg hKC]
          rfl
        rw [hv] at hia
        obtain ⟨E, hE⟩ : ∃ E, E = j + C := ⟨_, rfl⟩
        have hwE : IntKind.i64.wrap ((j : Int) + (C : Int)) = (E : Int) := by rw [IntKind.wrap_i64]; omega
        have hEN : ¬ E ≤ N := by have := HLN.out; omega
        have d0 : decide (E ≤ N) = false := decide_eq_false hEN
        have d1 : decide ((E : Int) ≤ (N : Int)) = false := decide_eq_false (by omega)
        clear hv hE hKC hnc
        go_wp2_with fail
        refine hia.mono ?_
        rintro e w7 ⟨rfl, hb7⟩
        have D := Lib.hid (below_on D.out hb7)
        clear hia P0 P1 hP
        go_upto_region 13 with fail
        obtain ⟨x8, hx8⟩ : ∃ v, v = w7.alloc (.cells #[.int .i64 0, .int .i64 0, .int .i64 0, .int .i64 0, .int .i64 0] 43) := ⟨_, rfl⟩
        have hb8 : Below w7.heap.size w7 x8 := by rw [hx8]; exact (Below.refl _ w7).alloc (Nat.le_refl _) _
        rw [← hx8]
        have D := Lib.hid (below_on D.out hb8)
        clear hx8 hb8 hb7
        go_upto_region 15 with fail
        refine wp_region_grow (by kernel_rfl) (by kernel_rfl) ?_
        repeat (go_big_quiet_step (fail))
        refine wpQuiet_nil ?_
        rintro X9 ⟨⟨_, hX9⟩, rfl⟩
        go_wp2
        go_ret
        exact ⟨rfl, below_on HB1.out (below_on D.out hX9)⟩
end Go.Proofs.Ytenehehljmckbaa.OCo
