/-
  The law EditWrites, walked.
-/
import Derived.Test.YtkddnknjjdenhaaEdg
import Derived.Test.YtkddnknjjdenhaaEdPar
set_option linter.unusedVariables false
set_option linter.unusedSimpArgs false
set_option maxRecDepth 100000
namespace Go.Proofs.Ytkddnknjjdenhaa.EdWri
open Go Go.RowKit Go.Proofs.Ytkddnknjjdenhaa.Vk Go.Proofs.Ytkddnknjjdenhaa.Str Go.Proofs.Ytkddnknjjdenhaa.Ln Go.Proofs.Ytkddnknjjdenhaa.Cl Go.Proofs.Ytkddnknjjdenhaa.Mv Go.Proofs.Ytkddnknjjdenhaa.Ed Go.Proofs.Ytkddnknjjdenhaa.EdJoi Go.Proofs.Ytkddnknjjdenhaa.EdPar
attribute [local go_sem] Oper.semAt_some

/-- The places: raw, of the text. -/
def P2l (l i : Int) (k : Nat) : Int := if k = 0 then l else i
theorem cell4 {w : World} {g : Nat} {t : TypeId} {l c i m : Int} (h : w.heap[g]? = some (.cells #[.int .i64 l, .int .i64 c, .int .i64 i, .int .i64 m] t (0, 0))) (k : Nat) (hk : k < 2) : w.cell? ⟨g, k * 2, none⟩ = some (.int .i64 (P2l l i k)) ∧ w.cell? ⟨g, k * 2 + 1, none⟩ = some (.int .i64 (P2l c m k)) := by
  constructor
  · rw [cell_of_row w g _ _ _ _ h]
    match k, hk with
    | 0, _ => rfl
    | 1, _ => rfl
  · rw [cell_of_row w g _ _ _ _ h]
    match k, hk with
    | 0, _ => rfl
    | 1, _ => rfl
def D31 (m d : Int) (j : Nat) : Int := if j = 0 then m else if j = 1 then d else 1
theorem cell31 {w : World} {g : Nat} {t : TypeId} {m d : Int} (h : w.heap[g]? = some (.cells #[.int .i64 m, .int .i64 d, .int .i64 1] t (0, 0))) (k : Nat) (hk : k < 3) : w.cell? ⟨g, k, none⟩ = some (.int .i64 (D31 m d k)) := by
  rw [cell_of_row w g k _ _ _ h]
  match k, hk with
  | 0, _ => rfl
  | 1, _ => rfl
  | 2, _ => rfl

set_option maxHeartbeats 8000000 in
theorem walk (a : Option Addr) (n c' : Nat) (ls : List ByteArray) (l c x y : Int) (ta : Option Addr) (tn tc : Nat) (tx : List ByteArray) (ch m : Int) (w : World) (h : Ss w a n c' ls) (hs : ∀ s ∈ ls, s.size ≤ 140737488355328) (hl0 : (Lit.int .i64 l).wf = true) (hc0 : (Lit.int .i64 c).wf = true) (hx0 : (Lit.int .u16 x).wf = true) (hy0 : (Lit.int .u16 y).wf = true)
    (ht : Ss w ta tn tc tx) (hts : ∀ s ∈ tx, s.size ≤ 140737488355328) (hch0 : (Lit.int .u8 ch).wf = true) (hm0 : (Lit.int .i64 m).wf = true) :
    Calls Try.prog 3 #[.slice a n c', .agg #[.int .i64 l, .int .i64 c], .int .u16 x, .int .u16 y, .slice ta tn tc, .int .u8 ch, .int .i64 m] w fun e w' => e = .returned (.bool true) ∧ Below w.heap.size w w' := by
  have x2 : 0 ≤ x ∧ x ≤ 65535 := by simpa [Lit.wf, IntKind.min, IntKind.max, IntKind.signed, IntKind.bits] using hx0
  have y2 : 0 ≤ y ∧ y ≤ 65535 := by simpa [Lit.wf, IntKind.min, IntKind.max, IntKind.signed, IntKind.bits] using hy0
  have h2 : 0 ≤ ch ∧ ch ≤ 255 := by simpa [Lit.wf, IntKind.min, IntKind.max, IntKind.signed, IntKind.bits] using hch0
  obtain ⟨z, hz⟩ : ∃ z : UInt8, (z.toNat : Int) = ch := ⟨UInt8.ofNat ch.toNat, by rw [UInt8.toNat_ofNat']; omega⟩
  subst hz
  obtain ⟨X, hX⟩ : ∃ X, X = w.alloc (.cells #[.int .i64 l, .int .i64 c] 24) := ⟨_, rfl⟩
  have hbX : Below w.heap.size w X := by rw [hX]; exact one_below _ _
  have hpX : PosAt X w.heap.size l c := by rw [hX]; exact PosAt.new w l c
  have hk := known_any X
  have H := Lib.hid (And.intro hX (And.intro hbX hpX))
  have HI := Lib.hid (And.intro (SrcV.below h hbX) (And.intro hs (And.intro (SrcV.below ht hbX) (And.intro hts (And.intro x2 y2)))))
  clear h hs ht hts hl0 hc0 hx0 hy0 hch0 hm0 x2 y2 h2 hX hbX hpX
  go_enter Try.func3, Try.ntmps3
  go_wp2_with fail
  rw [← H.out.1]
  refine hk.mono ?_
  rintro e w1 ⟨rfl, hb1⟩
  clear hk
  have ht := text_any a n c' ls w1 (SrcV.below HI.out.1 hb1) HI.out.2.1
  have hli := light_any ta tn tc tx w1 (SrcV.below HI.out.2.2.1 hb1) HI.out.2.2.2.1
  have HB1 := Lib.hid hb1
  clear hb1
  go_wp2_with fail
  refine ht.mono ?_
  rintro e w1' ⟨q, rfl, rfl, hq⟩
  clear ht
  have HQ := Lib.hid hq
  clear hq
  cases q with
  | false =>
    clear hli
    go_wp2
    go_ret
    exact ⟨rfl, below_on H.out.2.1 HB1.out⟩
  | true =>
    obtain ⟨h0, h40, htz, hnlf⟩ := HQ.out rfl
    have HT1 := Lib.hid (And.intro h0 (And.intro h40 htz))
    clear HQ h0 h40 htz hnlf
    go_wp2_with fail
    refine hli.mono ?_
    rintro e w1' ⟨q2, rfl, rfl, hq2⟩
    clear hli
    have HQ2 := Lib.hid hq2
    clear hq2
    cases q2 with
    | false =>
      go_wp2
      go_ret
      exact ⟨rfl, below_on H.out.2.1 HB1.out⟩
    | true =>
      obtain ⟨h0, h40, htz⟩ := HT1.out
      obtain ⟨t40, ttz, _⟩ := HQ2.out rfl
      have hse := fun W (hW : Below w1.heap.size w1 W) => seat_eq a n c' ls x y W (SrcV.below (SrcV.below HI.out.1 HB1.out) hW) h0 HI.out.2.1 HI.out.2.2.2.2.1 HI.out.2.2.2.2.2
      obtain ⟨i, hi⟩ : ∃ i, i = seatL n x := ⟨_, rfl⟩
      obtain ⟨k', hk'⟩ : ∃ k', k' = seatC ls n x y := ⟨_, rfl⟩
      rw [← hi, ← hk'] at hse
      have hp1 := H.out.2.2.below HB1.out H.out.2.2.lt
      have r0 := hp1.c0
      have r1 := hp1.c1
      have HZ := Lib.hid (And.intro h40 (And.intro htz (And.intro t40 (fun s (hm : s ∈ ls) => (show s.size ≤ 100000 by have := tz_mem ls s hm; omega)))))
      clear hi hk' hp1 HT1 HQ2 h0 h40 htz t40 ttz
      go_wp2_with fail
      have F_0 := fun (C : World → Prop) (hC : Grows w1 C) (z : In C) => hC.cell r0 z
      have F_1 := fun (C : World → Prop) (hC : Grows w1 C) (z : In C) => hC.cell r1 z
      have F_2 := fun (C : World → Prop) (hC : Grows w1 C) (z : In C) => hse z.W (hC.below _ z.isIn)
      refine wp_region_seg [0, 1, 2, 3, 4, 7] [(5, 1), (6, 0)] (by kernel_rfl) (by kernel_rfl) 106 rfl (by kernel_rfl) ?_
      simp only [List.map_cons, List.map_nil, opOf_succ, opOf_zero]
      apply Exists.intro
      refine ⟨fun C hC => ?_, ?_⟩
      · haveI hI := hC.one
        have f_0 := F_0 C hC
        have f_1 := F_1 C hC
        have f_2 := F_2 C hC
        repeat (go_big_quiet_step (first | (go_at_call 12; exact Calls.in_of hC (f_2 _))))
        exact wpQuiet_nil rfl
      clear F_0 F_1 F_2
      clear hse r0 r1
      refine wpPath_make rfl fun u hu => ⟨.slice (some ⟨u.heap.size, 0, none⟩) 2 2, u.alloc (.cells #[.int .i64 l, .int .i64 c, .int .i64 (i : Int), .int .i64 (k' : Int)] 24), rfl, by simp only [opOf_succ, opOf_zero]; go_simp, one_below _ _, ?_⟩
      simp only [opOf_succ, opOf_zero, Act.put, List.setIfInBounds_toArray, List.set_cons_zero, List.set_cons_succ]
      obtain ⟨x3, hx3⟩ : ∃ x3, x3 = u.alloc (.cells #[.int .i64 l, .int .i64 c, .int .i64 (i : Int), .int .i64 (k' : Int)] 24) := ⟨_, rfl⟩
      obtain ⟨gA, hgA⟩ : ∃ gA, gA = u.heap.size := ⟨_, rfl⟩
      have hQ : x3.heap[gA]? = some (.cells #[.int .i64 l, .int .i64 c, .int .i64 (i : Int), .int .i64 (k' : Int)] 24 (0, 0)) := by rw [hx3, hgA]; exact heap_alloc_new u _
      have hb3 : Below w1.heap.size w1 x3 := by rw [hx3]; exact below_on hu (one_below _ _)
      rw [← hx3, ← hgA]
      clear hx3 hgA hu
      refine wpPath_on (r := []) [6] 106 rfl (by kernel_rfl) ?_
      simp only [List.map_cons, List.map_nil, opOf_succ, opOf_zero]
      apply Exists.intro
      refine ⟨fun C hC => ?_, ?_⟩
      · haveI hI := hC.one
        repeat (go_big_quiet_step (fail))
        exact wpQuiet_nil rfl
      refine wpPath_end fun w2 hb4 => ?_
      have hQ := (hb4.block gA (Array.getElem?_eq_some_iff.1 hQ).1).trans hQ
      have hgl : gA < w2.heap.size := (Array.getElem?_eq_some_iff.1 hQ).1
      have H2 := Lib.hid (And.intro hQ (below_on HB1.out (below_on hb3 hb4)))
      clear hQ hb3 hb4
      go_wp2
      go_loopw [42] (fun i wr => ∃ k : Nat, k ≤ 2 ∧ i = .int .i64 k ∧ Hid (Below w2.heap.size w2 wr)) (fun i _ => 2 - (RowKit.intOf i).toNat)
      case atStart => exact ⟨0, by omega, rfl, Below.refl _ _⟩
      case round =>
        obtain ⟨k, hk, rfl, hB⟩ := hrel
        generalize wr = wo at *
        by_cases hk2 : k < 2
        rotate_left
        · obtain rfl : k = 2 := by omega
          go_wp2
          go_ret
          exact ⟨rfl, below_on H.out.2.1 (below_on H2.out.2 hB.out)⟩
        obtain ⟨c0, c1⟩ := cell4 ((hB.out.block gA hgl).trans H2.out.1) k hk2
        obtain ⟨pl, hpl⟩ : ∃ pl, pl = P2l l i k := ⟨_, rfl⟩
        obtain ⟨pc, hpc⟩ : ∃ pc, pc = P2l c k' k := ⟨_, rfl⟩
        rw [← hpl] at c0
        rw [← hpc] at c1
        have hkl : (k : Int) < 2 := by omega
        have hkw : IntKind.i64.wrap ((k : Int) + 1) = ((k + 1 : Nat) : Int) := by rw [IntKind.wrap_i64]; omega
        obtain ⟨V0, hV0⟩ : ∃ V0, V0 = wo.alloc (.cells #[.int .i64 pl, .int .i64 pc] 24) := ⟨_, rfl⟩
        obtain ⟨g0, hg0⟩ : ∃ g0, g0 = wo.heap.size := ⟨_, rfl⟩
        have hbV0 : Below wo.heap.size wo V0 := by rw [hV0]; exact one_below _ _
        have a0 : PosAt V0 g0 pl pc := by rw [hV0, hg0]; exact PosAt.new wo pl pc
        have hb0 := below_on H2.out.2 hB.out
        have hss := fun W (hW : Below wo.heap.size wo W) => SrcV.below (SrcV.below HI.out.1 hb0) hW
        have htt := fun W (hW : Below wo.heap.size wo W) => SrcV.below (SrcV.below HI.out.2.2.1 hb0) hW
        have sw := fun W (hW : Below wo.heap.size wo W) => write_any a n c' ls pl pc ta tn tc tx W (hss W hW) HI.out.2.1 (htt W hW) HI.out.2.2.2.1 (by have := HZ.out.1; omega) (by have := HZ.out.2.2.1; omega)
        have sw9 := fun W (hW : Below wo.heap.size wo W) => write19_any a n c' ls pl pc ta tn tc tx W (hss W hW) HI.out.2.1 (htt W hW) HI.out.2.2.2.1 (by have := HZ.out.1; omega) (by have := HZ.out.2.2.1; omega)
        obtain ⟨⟨rc, ⟨ql, qc⟩, rb⟩, hR⟩ : ∃ R, R = wrt ls pl pc tx := ⟨_, rfl⟩
        rw [← hR] at sw sw9
        have e1 := sw V0 hbV0
        have hg0s : wo.heap.size ≤ g0 := by rw [hg0]; exact Nat.le_refl _
        have hg0V : g0 < V0.heap.size := a0.lt
        have q0 := a0.c0
        have q1 := a0.c1
        have H3 := Lib.hid (And.intro hV0 (And.intro a0 (And.intro hbV0 hss)))
        clear hR hV0 a0 hbV0 sw hpl hpc hss htt hb0
        go_upto_region 8 with fail
        rw [← hg0, ← H3.out.1]
        clear c0 c1 hg0
        go_wp2_with fail
        clear q0 q1
        refine e1.mono ?_
        rintro e w1 ⟨⟨f1, ⟨oa1, on1, oc1⟩, na1, nn1, nc1⟩, rfl, hc1, hb1⟩
        simp only [cv, sv]
        obtain ⟨V1, hV1⟩ : ∃ V1, V1 = (w1.alloc (.cells #[.int .i64 f1, .slice oa1 on1 oc1, .slice na1 nn1 nc1] 31)).alloc (.cells #[.int .i64 ql, .int .i64 qc] 24) := ⟨_, rfl⟩
        obtain ⟨g1, hg1⟩ : ∃ g1, g1 = w1.heap.size := ⟨_, rfl⟩
        have hbV1 : Below w1.heap.size w1 V1 := by rw [hV1]; exact two_below _ _ _
        have a1 : ChAt V1 g1 (f1, (oa1, on1, oc1), (na1, nn1, nc1)) := by rw [hV1, hg1]; exact (ChAt.new w1 (f1, (oa1, on1, oc1), (na1, nn1, nc1))).below (one_below _ _) (by simp)
        have p1 : PosAt V1 (g1 + 1) ql qc := by rw [hV1, hg1]; exact two_new w1 _ _
        have bb1 := below_on hb1 hbV1
        have cc1 := hc1.below hbV1
        have hb1s : V0.heap.size ≤ g1 := by rw [hg1]; exact hb1.size
        have b1 := below_on H3.out.2.2.1 bb1
        have e2 := sw9 V1 b1
        have a0 := H3.out.2.1.below bb1 H3.out.2.1.lt
        have q0 := a0.c0
        have q1 := a0.c1
        have H5 := Lib.hid (And.intro hV1 (And.intro a1 (And.intro cc1 (And.intro b1 (And.intro p1 a0)))))
        clear hV1 hbV1 a1 bb1 cc1 hc1 hb1 e1 sw9 a0 b1 p1
        go_upto_region 9 with fail
        rw [← hg1, ← H5.out.1]
        clear hg1
        go_wp2_with fail
        clear q0 q1
        refine e2.mono ?_
        rintro e w2 ⟨⟨f2, ⟨oa2, on2, oc2⟩, na2, nn2, nc2⟩, rfl, hc2, hb2⟩
        simp only [cv, sv]
        obtain ⟨V2, hV2⟩ : ∃ V2, V2 = (w2.alloc (.cells #[.int .i64 f2, .slice oa2 on2 oc2, .slice na2 nn2 nc2] 31)).alloc (.cells #[.int .i64 ql, .int .i64 qc] 24) := ⟨_, rfl⟩
        obtain ⟨g2, hg2⟩ : ∃ g2, g2 = w2.heap.size := ⟨_, rfl⟩
        have hbV2 : Below w2.heap.size w2 V2 := by rw [hV2]; exact two_below _ _ _
        have a2 : ChAt V2 g2 (f2, (oa2, on2, oc2), (na2, nn2, nc2)) := by rw [hV2, hg2]; exact (ChAt.new w2 (f2, (oa2, on2, oc2), (na2, nn2, nc2))).below (one_below _ _) (by simp)
        have p2 : PosAt V2 (g2 + 1) ql qc := by rw [hV2, hg2]; exact two_new w2 _ _
        have bb2 := below_on hb2 hbV2
        have cc2 := hc2.below hbV2
        have z1 := H5.out.2.1.below bb2 H5.out.2.1.lt
        have k1 := H5.out.2.2.1.below bb2
        have z2 := H5.out.2.2.2.2.1.below bb2 H5.out.2.2.2.2.1.lt
        have z0 := H5.out.2.2.2.2.2.below bb2 H5.out.2.2.2.2.2.lt
        have sm := same_any f1 oa1 on1 oc1 na1 nn1 nc1 f2 oa2 on2 oc2 na2 nn2 nc2 rc rc rb rb V2 k1 cc2
        rw [decide_eq_true rfl, decide_eq_true rfl] at sm
        have m0 := z1.c0
        have m1 : V2.cell? ⟨g1, 1, none⟩ = some (.slice oa1 on1 oc1) := z1.c1
        have m2 : V2.cell? ⟨g1, 2, none⟩ = some (.slice na1 nn1 nc1) := z1.c2
        have r0 := a2.c0
        have r1 : V2.cell? ⟨g2, 1, none⟩ = some (.slice oa2 on2 oc2) := a2.c1
        have r2 : V2.cell? ⟨g2, 2, none⟩ = some (.slice na2 nn2 nc2) := a2.c2
        have hg1l := H5.out.2.1.lt
        have hgg : g1 + 1 < g2 := by have h1 := H5.out.2.2.2.2.1.lt; have h2 := hb2.size; rw [hg2]; omega
        have hg01 : g0 < g1 := by omega
        have hwr : wo.heap.size ≤ g0 := hg0s
        have H6 := Lib.hid (And.intro hV2 (And.intro (below_on H5.out.2.2.2.1 bb2) (And.intro z0 (And.intro z1 (And.intro a2 (And.intro z2 p2))))))
        clear hV2 hbV2 a2 bb2 cc2 hc2 hb2 e2 z1 k1 z2 z0 p2
        go_upto_region 10 with fail
        rw [← hg2, ← H6.out.1]
        clear hg2
        go_wp2_with fail
        refine sm.mono ?_
        rintro e w5 ⟨rfl, hb5⟩
        clear sm m0 m1 m2 r0 r1 r2
        have v1 := H6.out.2.2.2.2.2.1.below hb5 H6.out.2.2.2.2.2.1.lt
        have v2 := H6.out.2.2.2.2.2.2.below hb5 H6.out.2.2.2.2.2.2.lt
        have q0 := v1.c0
        have q1 := v1.c1
        have u0 := v2.c0
        have u1 := v2.c1
        have hne := fun W => neq_pos ql qc ql qc W
        simp only [decide_true, Bool.and_true, Bool.not_true] at hne
        have H7 := Lib.hid (And.intro (below_on H6.out.2.1 hb5) (And.intro (H6.out.2.2.1.below hb5 H6.out.2.2.1.lt) (And.intro (H6.out.2.2.2.1.below hb5 H6.out.2.2.2.1.lt) (H6.out.2.2.2.2.1.below hb5 H6.out.2.2.2.2.1.lt))))
        clear hb5 v1 v2
        obtain ⟨d, hd⟩ : ∃ d, d = m.tmod 9 := ⟨_, rfl⟩
        have hd9 : m.tmod 9 = d := hd.symm
        obtain ⟨w6, hw6⟩ : ∃ w6, w6 = w5.alloc (.cells #[.int .i64 m, .int .i64 d, .int .i64 1] 3) := ⟨_, rfl⟩
        obtain ⟨gB, hgB⟩ : ∃ gB, gB = w5.heap.size := ⟨_, rfl⟩
        have hr6 : w6.heap[gB]? = some (.cells #[.int .i64 m, .int .i64 d, .int .i64 1] 3 (0, 0)) := by rw [hw6, hgB]; exact heap_alloc_new w5 _
        have hb6 : Below w5.heap.size w5 w6 := by rw [hw6]; exact one_below _ _
        have hgB1 : g2 < gB := by rw [hgB]; exact H7.out.2.2.2.lt
        have HW6 := Lib.hid (And.intro hw6 (And.intro hgB (And.intro hr6 (And.intro (below_on H7.out.1 hb6) (And.intro (H7.out.2.1.below hb6 H7.out.2.1.lt) (And.intro (H7.out.2.2.1.below hb6 H7.out.2.2.1.lt) (H7.out.2.2.2.below hb6 H7.out.2.2.2.lt)))))))
        have hgBl : gB < w6.heap.size := (Array.getElem?_eq_some_iff.1 hr6).1
        clear hd hw6 hgB hr6 hb6
        go_upto_region 13 with fail
        rw [← HW6.out.2.1, ← HW6.out.1]
        clear q0 q1 u0 u1 hne hd9
        go_loopw [78] (fun i wv => ∃ (j : Nat) (y1 y2 : Rw), j ≤ 3 ∧ i = .int .i64 j ∧ Hid (Below wo.heap.size wo wv ∧ PosAt wv g0 pl pc ∧ ChAt wv g1 y1 ∧ ChAt wv g2 y2 ∧ wv.heap[gB]? = some (.cells #[.int .i64 m, .int .i64 d, .int .i64 1] 3 (0, 0)))) (fun i _ => 3 - (RowKit.intOf i).toNat)
        case atStart => exact ⟨0, _, _, by omega, rfl, HW6.out.2.2.2.1, HW6.out.2.2.2.2.1, HW6.out.2.2.2.2.2.1, HW6.out.2.2.2.2.2.2, HW6.out.2.2.1⟩
        case round =>
          obtain ⟨j, ⟨s1, ⟨sa1, sn1, sc1⟩, ta1, tn1, tc1⟩, ⟨s2, ⟨sa2, sn2, sc2⟩, ta2, tn2, tc2⟩, hj, rfl, hC⟩ := hrel
          by_cases hj3 : j < 3
          rotate_left
          · obtain rfl : j = 3 := by omega
            go_wp2
            go_roundw
            case rel => exact ⟨k + 1, by omega, by go_num, below_on hB.out hC.out.1⟩
            case measure => simp [RowKit.intOf]; omega
          have hcl := cell31 hC.out.2.2.2.2 j hj3
          obtain ⟨M, hM⟩ : ∃ M, M = D31 m d j := ⟨_, rfl⟩
          rw [← hM] at hcl
          have hjl : (j : Int) < 3 := by omega
          have hjw : IntKind.i64.wrap ((j : Int) + 1) = ((j + 1 : Nat) : Int) := by rw [IntKind.wrap_i64]; omega
          have so := fun W (hW : Below wo.heap.size wo W) => over_all a n c' ls pl pc z M W (H3.out.2.2.2 W hW) HI.out.2.1 HZ.out.2.2.2 (by have := HZ.out.1; omega)
          have sp := fun W (hW : Below wo.heap.size wo W) => over19_all a n c' ls pl pc z M W (H3.out.2.2.2 W hW) HI.out.2.1 HZ.out.2.2.2 (by have := HZ.out.1; omega)
          obtain ⟨⟨rc, rb⟩, hR⟩ : ∃ R, R = ovr ls pl pc z M := ⟨_, rfl⟩
          rw [← hR] at so sp
          have e1 := so _ hC.out.1
          have q0 := hC.out.2.1.c0
          have q1 := hC.out.2.1.c1
          clear hM hR so
          go_wp2_with fail
          clear hcl q0 q1
          refine e1.mono ?_
          rintro e v1 ⟨⟨f3, ⟨oa3, on3, oc3⟩, na3, nn3, nc3⟩, rfl, hc3, hb3⟩
          simp only [cv, sv]
          have a17 := hC.out.2.2.1.below hb3 hC.out.2.2.1.lt
          have m0 := a17.c0
          have m1 : v1.cell? ⟨g1, 1, none⟩ = some (.slice sa1 sn1 sc1) := a17.c1
          have m2 : v1.cell? ⟨g1, 2, none⟩ = some (.slice ta1 tn1 tc1) := a17.c2
          have zz := a17.z
          obtain ⟨v2, hv2⟩ : ∃ v2, v2 = putC v1 g1 (f3, (oa3, on3, oc3), (na3, nn3, nc3)) := ⟨_, rfl⟩
          have hbv1 := below_on hC.out.1 hb3
          have hbv2 : Below wo.heap.size wo v2 := by rw [hv2]; exact putC_below hbv1 (by omega) _
          have hfr2 : Fr (fun j => j = g1) v1 v2 := by rw [hv2]; exact putC_fr _ _ _
          have b17 : ChAt v2 g1 (f3, (oa3, on3, oc3), (na3, nn3, nc3)) := by rw [hv2]; exact a17.set _
          have hc3' : CW v2 (f3, (oa3, on3, oc3), (na3, nn3, nc3)) rc := by rw [hv2]; exact CW.putC hc3 a17
          have b16 := pos_fr (hC.out.2.1.below hb3 hC.out.2.1.lt) hfr2 (by omega)
          have b20 := (hC.out.2.2.2.1.below hb3 hC.out.2.2.2.1.lt).fr hfr2 (by omega)
          have brow := (hfr2.block gB (by have := hb3.size; have := (Array.getElem?_eq_some_iff.1 hC.out.2.2.2.2).1; omega) (by omega)).trans ((hb3.block gB (Array.getElem?_eq_some_iff.1 hC.out.2.2.2.2).1).trans hC.out.2.2.2.2)
          have e2 := sp v2 hbv2
          have q0 := b16.c0
          have q1 := b16.c1
          have HV := Lib.hid (And.intro hv2 (And.intro hbv2 (And.intro b17 (And.intro hc3' (And.intro b16 (And.intro b20 brow))))))
          clear a17 hbv1 hbv2 hfr2 b17 hc3 hc3' b16 b20 brow hb3 e1 sp hv2
          go_upto_region 16 with fail
          rw [show ((v1.setCell ⟨g1, 0, none⟩ (.int .i64 f3)).setCell ⟨g1, 1, none⟩ (.slice oa3 on3 oc3)).setCell ⟨g1, 2, none⟩ (.slice na3 nn3 nc3) = v2 from HV.out.1.symm]
          clear m0 m1 m2 zz
          go_wp2_with fail
          clear q0 q1
          refine e2.mono ?_
          rintro e v3 ⟨⟨f4, ⟨oa4, on4, oc4⟩, na4, nn4, nc4⟩, rfl, hc4, hb4⟩
          simp only [cv, sv]
          have a20 := HV.out.2.2.2.2.2.1.below hb4 HV.out.2.2.2.2.2.1.lt
          have m0 := a20.c0
          have m1 : v3.cell? ⟨g2, 1, none⟩ = some (.slice sa2 sn2 sc2) := a20.c1
          have m2 : v3.cell? ⟨g2, 2, none⟩ = some (.slice ta2 tn2 tc2) := a20.c2
          have zz := a20.z
          obtain ⟨v4, hv4⟩ : ∃ v4, v4 = putC v3 g2 (f4, (oa4, on4, oc4), (na4, nn4, nc4)) := ⟨_, rfl⟩
          have hbv3 := below_on HV.out.2.1 hb4
          have hbv4 : Below wo.heap.size wo v4 := by rw [hv4]; exact putC_below hbv3 (by omega) _
          have hfr4 : Fr (fun j => j = g2) v3 v4 := by rw [hv4]; exact putC_fr _ _ _
          have b20 : ChAt v4 g2 (f4, (oa4, on4, oc4), (na4, nn4, nc4)) := by rw [hv4]; exact a20.set _
          have hc4' : CW v4 (f4, (oa4, on4, oc4), (na4, nn4, nc4)) rc := by rw [hv4]; exact CW.putC hc4 a20
          have hc3' : CW v4 (f3, (oa3, on3, oc3), (na3, nn3, nc3)) rc := by rw [hv4]; exact CW.putC (HV.out.2.2.2.1.below hb4) a20
          have b17 := (HV.out.2.2.1.below hb4 HV.out.2.2.1.lt).fr hfr4 (by omega)
          have b16 := pos_fr (HV.out.2.2.2.2.1.below hb4 HV.out.2.2.2.2.1.lt) hfr4 (by omega)
          have brow := (hfr4.block gB (by have := hb4.size; have := (Array.getElem?_eq_some_iff.1 HV.out.2.2.2.2.2.2).1; omega) (by omega)).trans ((hb4.block gB (Array.getElem?_eq_some_iff.1 HV.out.2.2.2.2.2.2).1).trans HV.out.2.2.2.2.2.2)
          have sm := same_any f3 oa3 on3 oc3 na3 nn3 nc3 f4 oa4 on4 oc4 na4 nn4 nc4 rc rc rb rb v4 hc3' hc4'
          rw [decide_eq_true rfl, decide_eq_true rfl] at sm
          have w0 := b17.c0
          have w1' : v4.cell? ⟨g1, 1, none⟩ = some (.slice oa3 on3 oc3) := b17.c1
          have w2' : v4.cell? ⟨g1, 2, none⟩ = some (.slice na3 nn3 nc3) := b17.c2
          have r0 := b20.c0
          have r1 : v4.cell? ⟨g2, 1, none⟩ = some (.slice oa4 on4 oc4) := b20.c1
          have r2 : v4.cell? ⟨g2, 2, none⟩ = some (.slice na4 nn4 nc4) := b20.c2
          have HV4 := Lib.hid (And.intro hv4 (And.intro hbv4 (And.intro b17 (And.intro b16 (And.intro b20 brow)))))
          clear a20 hbv3 hbv4 hfr4 b17 hc4 hc4' hc3' b16 b20 brow hb4 e2 hv4
          go_upto_region 17 with fail
          rw [show ((v3.setCell ⟨g2, 0, none⟩ (.int .i64 f4)).setCell ⟨g2, 1, none⟩ (.slice oa4 on4 oc4)).setCell ⟨g2, 2, none⟩ (.slice na4 nn4 nc4) = v4 from HV4.out.1.symm]
          clear m0 m1 m2 zz
          go_wp2_with fail
          refine sm.mono ?_
          rintro e v5 ⟨rfl, hb5⟩
          have HF : Hid (Below wo.heap.size wo v5 ∧ PosAt v5 g0 pl pc ∧ ChAt v5 g1 (f3, (oa3, on3, oc3), (na3, nn3, nc3)) ∧ ChAt v5 g2 (f4, (oa4, on4, oc4), (na4, nn4, nc4)) ∧ v5.heap[gB]? = some (.cells #[.int .i64 m, .int .i64 d, .int .i64 1] 3 (0, 0))) :=
            ⟨below_on HV4.out.2.1 hb5, HV4.out.2.2.2.1.below hb5 HV4.out.2.2.2.1.lt, HV4.out.2.2.1.below hb5 HV4.out.2.2.1.lt, HV4.out.2.2.2.2.1.below hb5 HV4.out.2.2.2.2.1.lt, (hb5.block gB (Array.getElem?_eq_some_iff.1 HV4.out.2.2.2.2.2).1).trans HV4.out.2.2.2.2.2⟩
          clear sm hb5 w0 w1' w2' r0 r1 r2
          go_wp2
          go_roundw
          case rel => exact ⟨j + 1, _, _, by omega, by go_num, HF⟩
          case measure => simp [RowKit.intOf]; omega
end Go.Proofs.Ytkddnknjjdenhaa.EdWri
