/-
  The law EditShifts, walked.
-/
import Derived.Test.YtkddnknjjdenhaaEdt
import Derived.Test.YtkddnknjjdenhaaEdJoi
set_option linter.unusedVariables false
set_option linter.unusedSimpArgs false
set_option maxRecDepth 100000
namespace Go.Proofs.Ytkddnknjjdenhaa.EdShi
open Go Go.RowKit Go.Proofs.Ytkddnknjjdenhaa.Vk Go.Proofs.Ytkddnknjjdenhaa.Str Go.Proofs.Ytkddnknjjdenhaa.Ln Go.Proofs.Ytkddnknjjdenhaa.Cl Go.Proofs.Ytkddnknjjdenhaa.Mv Go.Proofs.Ytkddnknjjdenhaa.Ed Go.Proofs.Ytkddnknjjdenhaa.EdJoi
attribute [local go_sem] Oper.semAt_some

/-- The twelve numbers: four rounds of three. -/
def G12 (f t d m1 m2 A B e : Int) (k : Nat) : Int :=
  match k with
  | 0 => f
  | 1 => t
  | 2 => d
  | 3 => m1
  | 4 => m2
  | 5 => d
  | 6 => A
  | 7 => B
  | 8 => 1
  | 9 => A
  | 10 => A
  | _ => e
theorem cell12 {w : World} {g : Nat} {ty : TypeId} {f t d m1 m2 A B e : Int} (h : w.heap[g]? = some (.cells #[.int .i64 f, .int .i64 t, .int .i64 d, .int .i64 m1, .int .i64 m2, .int .i64 d, .int .i64 A, .int .i64 B, .int .i64 1, .int .i64 A, .int .i64 A, .int .i64 e] ty (0, 0))) (k : Nat) (hk : k < 12) : w.cell? ⟨g, k, none⟩ = some (.int .i64 (G12 f t d m1 m2 A B e k)) := by
  rw [cell_of_row w g k _ _ _ h]
  match k, hk with
  | 0, _ => rfl
  | 1, _ => rfl
  | 2, _ => rfl
  | 3, _ => rfl
  | 4, _ => rfl
  | 5, _ => rfl
  | 6, _ => rfl
  | 7, _ => rfl
  | 8, _ => rfl
  | 9, _ => rfl
  | 10, _ => rfl
  | 11, _ => rfl

set_option maxHeartbeats 8000000 in
theorem walk (a : Option Addr) (n c' : Nat) (ls : List ByteArray) (f t m : Int) (left : Bool) (w : World) (h : Ss w a n c' ls) (hs : ∀ s ∈ ls, s.size ≤ 140737488355328) (hf0 : (Lit.int .i64 f).wf = true) (ht0 : (Lit.int .i64 t).wf = true) (hm0 : (Lit.int .i64 m).wf = true) :
    Calls Try.prog 5 #[.slice a n c', .int .i64 f, .int .i64 t, .int .i64 m, .bool left] w fun e w' => e = .returned (.bool true) ∧ Below w.heap.size w w' := by
  have hk := known_any w
  have hf := i64_of hf0
  have ht := i64_of ht0
  have hm := i64_of hm0
  have HI := Lib.hid (And.intro h (And.intro hs (And.intro hf (And.intro ht hm))))
  clear h hs hf0 ht0 hm0 hf ht hm
  go_enter Try.func5, Try.ntmps5
  go_wp2_with fail
  refine hk.mono ?_
  rintro e w1 ⟨rfl, hb1⟩
  clear hk
  have ht := text_any a n c' ls w1 (SrcV.below HI.out.1 hb1) HI.out.2.1
  have HB1 := Lib.hid hb1
  clear hb1
  go_wp2_with fail
  refine ht.mono ?_
  rintro e w1' ⟨q, rfl, rfl, hq⟩
  clear ht
  have HQ := Lib.hid hq
  clear hq
  cases q with
  | false =>
    go_wp2
    go_ret
    exact ⟨rfl, HB1.out⟩
  | true =>
    obtain ⟨h0, h40, htz, _⟩ := HQ.out rfl
    by_cases h10 : (10 : Int) < (n : Int)
    · have h10' : 10 < n := by omega
      clear HQ
      go_wp2
      go_ret
      exact ⟨rfl, HB1.out⟩
    have h10' : ¬ 10 < n := by omega
    obtain ⟨F, hF⟩ : ∃ F : Nat, (F : Int) = f % (n : Int) := ⟨(f % (n : Int)).toNat, by have := Int.emod_nonneg f (b := (n : Int)) (by omega); omega⟩
    obtain ⟨T, hT⟩ : ∃ T : Nat, (T : Int) = t % (n : Int) := ⟨(t % (n : Int)).toNat, by have := Int.emod_nonneg t (b := (n : Int)) (by omega); omega⟩
    have hFn : F < n := by have := Int.emod_lt_of_pos f (b := (n : Int)) (by omega); omega
    have hTn : T < n := by have := Int.emod_lt_of_pos t (b := (n : Int)) (by omega); omega
    have p1 := place_any f n F w1 h0 (by omega) hF
    have p2 := place_any t n T w1 h0 (by omega) hT
    have H1 := Lib.hid (And.intro h40 (And.intro htz (And.intro hFn hTn)))
    clear hF hT HQ h0 h40 htz hFn hTn
    go_upto_region 6 with (first | (refine p1.mono ?_; rintro e w' ⟨rfl, rfl⟩; clear p1) | (refine p2.mono ?_; rintro e w' ⟨rfl, rfl⟩; clear p2))
    obtain ⟨d, hd⟩ : ∃ d, d = m.tmod 5 := ⟨_, rfl⟩
    have hd2 : m.tmod 5 = d := hd.symm
    have hdb : -5 < d ∧ d < 5 := by
      have := Int.tmod_lt_of_pos m (b := 5) (by omega)
      have := Int.lt_tmod_of_pos m (b := 5) (by omega)
      omega
    clear hd
    by_cases hTF : T < F
    · have x1 : (T : Int) < (F : Int) := by omega
      have x2 : ¬ (F : Int) < (T : Int) := by omega
      have x3 : min (F : Int) (T : Int) = (T : Int) := by omega
      have x4 : max (F : Int) (T : Int) = (F : Int) := by omega
      by_cases hm1 : (1100 : Int) < m
      · have x5 : min m 1100 = 1100 := by omega
        clear hTF
        go_wp2
        obtain ⟨w2, hw2⟩ : ∃ w2, w2 = w1.alloc (.cells #[.int .i64 f, .int .i64 t, .int .i64 d, .int .i64 T, .int .i64 F, .int .i64 d, .int .i64 F, .int .i64 T, .int .i64 1, .int .i64 F, .int .i64 F, .int .i64 1100] 43) := ⟨_, rfl⟩
        obtain ⟨gA, hgA⟩ : ∃ gA, gA = w1.heap.size := ⟨_, rfl⟩
        have hr2 : w2.heap[gA]? = some (.cells #[.int .i64 f, .int .i64 t, .int .i64 d, .int .i64 T, .int .i64 F, .int .i64 d, .int .i64 F, .int .i64 T, .int .i64 1, .int .i64 F, .int .i64 F, .int .i64 1100] 43 (0, 0)) := by rw [hw2, hgA]; exact heap_alloc_new w1 _
        have hb2 : Below w1.heap.size w1 w2 := by rw [hw2]; exact one_below _ _
        have hgl : gA < w2.heap.size := (Array.getElem?_eq_some_iff.1 hr2).1
        rw [← hgA, ← hw2]
        have H2 := Lib.hid (And.intro hr2 (below_on HB1.out hb2))
        clear hw2 hgA hr2 hb2 x1 x2 x3 x4 x5 hd2 hdb
        go_loopw [61] (fun i wr => ∃ k : Nat, k ≤ 4 ∧ i = .int .i64 k ∧ Hid (Below w2.heap.size w2 wr)) (fun i _ => 4 - (RowKit.intOf i).toNat)
        case atStart => exact ⟨0, by omega, rfl, Below.refl _ _⟩
        case round =>
          obtain ⟨k, hk, rfl, hB⟩ := hrel
          by_cases hk4 : k < 4
          rotate_left
          · obtain rfl : k = 4 := by omega
            go_wp2
            go_ret
            exact ⟨rfl, below_on H2.out.2 hB.out⟩
          have hrr := (hB.out.block gA hgl).trans H2.out.1
          obtain ⟨x0, hx0⟩ : ∃ x0, x0 = G12 f t d T F F T 1100 (k * 3) := ⟨_, rfl⟩
          obtain ⟨x1, hx1⟩ : ∃ x1, x1 = G12 f t d T F F T 1100 (k * 3 + 1) := ⟨_, rfl⟩
          obtain ⟨x2, hx2⟩ : ∃ x2, x2 = G12 f t d T F F T 1100 (k * 3 + 2) := ⟨_, rfl⟩
          have c0 := cell12 hrr (k * 3) (by omega)
          have c1 := cell12 hrr (k * 3 + 1) (by omega)
          have c2 := cell12 hrr (k * 3 + 2) (by omega)
          rw [← hx0] at c0
          rw [← hx1] at c1
          rw [← hx2] at c2
          have hkl : (k : Int) < 4 := by omega
          have hkw : IntKind.i64.wrap ((k : Int) + 1) = ((k + 1 : Nat) : Int) := by rw [IntKind.wrap_i64]; omega
          have hb0 := below_on H2.out.2 hB.out
          have HH := Lib.hid (And.intro hb0 (SrcV.below HI.out.1 hb0))
          clear hrr hx0 hx1 hx2 hb0
          obtain ⟨V0, hV0⟩ : ∃ V0, V0 = wr.alloc (.cells #[.int .i64 x0, .int .i64 x1, .int .i64 x2] 43) := ⟨_, rfl⟩
          obtain ⟨g0, hg0⟩ : ∃ g0, g0 = wr.heap.size := ⟨_, rfl⟩
          have hbV0 : Below wr.heap.size wr V0 := by rw [hV0]; exact one_below _ _
          have a0 : V0.heap[g0]? = some (.cells #[.int .i64 x0, .int .i64 x1, .int .i64 x2] 43 (0, 0)) := by rw [hV0, hg0]; exact heap_alloc_new wr _
          have hg0l : g0 < V0.heap.size := (Array.getElem?_eq_some_iff.1 a0).1
          have y0 : V0.cell? ⟨g0, 0, none⟩ = some (.int .i64 x0) := (cell_of_row V0 _ 0 _ _ _ a0).trans (by simp)
          have y1 : V0.cell? ⟨g0, 1, none⟩ = some (.int .i64 x1) := (cell_of_row V0 _ 1 _ _ _ a0).trans (by simp)
          have y2 : V0.cell? ⟨g0, 2, none⟩ = some (.int .i64 x2) := (cell_of_row V0 _ 2 _ _ _ a0).trans (by simp)
          have sc := fun W (hW : Below wr.heap.size wr W) => shift_any a n c' ls x0 x1 x2 left W (SrcV.below HH.out.2 hW) (by have := H1.out.1; omega) (by have := H1.out.2.1; omega)
          have sd := fun W (hW : Below wr.heap.size wr W) => shift19_any a n c' ls x0 x1 x2 left W (SrcV.below HH.out.2 hW) (by have := H1.out.1; omega) (by have := H1.out.2.1; omega)
          obtain ⟨⟨rc, rb⟩, hR⟩ : ∃ R, R = shn ls x0 x1 x2 left := ⟨_, rfl⟩
          rw [← hR] at sc sd
          have e1 := sc V0 hbV0
          have H3 := Lib.hid (And.intro hV0 (And.intro a0 hbV0))
          clear hR hV0 a0 hbV0 sc
          go_upto_region 9 with fail
          rw [← hg0, ← H3.out.1]
          clear c0 c1 c2 hg0
          go_wp2_with fail
          clear y0 y1 y2
          refine e1.mono ?_
          rintro e w1 ⟨⟨f1, ⟨oa1, on1, oc1⟩, na1, nn1, nc1⟩, rfl, hc1, hb1⟩
          simp only [cv, sv]
          obtain ⟨V1, hV1⟩ : ∃ V1, V1 = w1.alloc (.cells #[.int .i64 f1, .slice oa1 on1 oc1, .slice na1 nn1 nc1] 31) := ⟨_, rfl⟩
          obtain ⟨g1, hg1⟩ : ∃ g1, g1 = w1.heap.size := ⟨_, rfl⟩
          have hbV1 : Below w1.heap.size w1 V1 := by rw [hV1]; exact one_below _ _
          have a1 : ChAt V1 g1 (f1, (oa1, on1, oc1), (na1, nn1, nc1)) := by rw [hV1, hg1]; exact ChAt.new w1 (f1, (oa1, on1, oc1), (na1, nn1, nc1))
          have bb1 := below_on hb1 hbV1
          have cc1 := hc1.below hbV1
          have b1 := below_on H3.out.2.2 bb1
          have e2 := sd V1 b1
          have a0 := (bb1.block g0 hg0l).trans H3.out.2.1
          have y0 : V1.cell? ⟨g0, 0, none⟩ = some (.int .i64 x0) := (cell_of_row V1 _ 0 _ _ _ a0).trans (by simp)
          have y1 : V1.cell? ⟨g0, 1, none⟩ = some (.int .i64 x1) := (cell_of_row V1 _ 1 _ _ _ a0).trans (by simp)
          have y2 : V1.cell? ⟨g0, 2, none⟩ = some (.int .i64 x2) := (cell_of_row V1 _ 2 _ _ _ a0).trans (by simp)
          have H5 := Lib.hid (And.intro hV1 (And.intro a1 (And.intro cc1 b1)))
          clear hV1 hbV1 a1 bb1 cc1 hc1 hb1 e1 sd a0 b1
          go_upto_region 10 with fail
          rw [← hg1, ← H5.out.1]
          clear hg1
          go_wp2_with fail
          clear y0 y1 y2
          refine e2.mono ?_
          rintro e w2 ⟨⟨f2, ⟨oa2, on2, oc2⟩, na2, nn2, nc2⟩, rfl, hc2, hb2⟩
          simp only [cv, sv]
          obtain ⟨V2, hV2⟩ : ∃ V2, V2 = w2.alloc (.cells #[.int .i64 f2, .slice oa2 on2 oc2, .slice na2 nn2 nc2] 31) := ⟨_, rfl⟩
          obtain ⟨g2, hg2⟩ : ∃ g2, g2 = w2.heap.size := ⟨_, rfl⟩
          have hbV2 : Below w2.heap.size w2 V2 := by rw [hV2]; exact one_below _ _
          have a2 : ChAt V2 g2 (f2, (oa2, on2, oc2), (na2, nn2, nc2)) := by rw [hV2, hg2]; exact ChAt.new w2 (f2, (oa2, on2, oc2), (na2, nn2, nc2))
          have bb2 := below_on hb2 hbV2
          have cc2 := hc2.below hbV2
          have z1 := H5.out.2.1.below bb2 H5.out.2.1.lt
          have k1 := H5.out.2.2.1.below bb2
          have sm := same_any f1 oa1 on1 oc1 na1 nn1 nc1 f2 oa2 on2 oc2 na2 nn2 nc2 rc rc rb rb V2 k1 cc2
          rw [decide_eq_true rfl, decide_eq_true rfl] at sm
          have m0 := z1.c0
          have m1 : V2.cell? ⟨g1, 1, none⟩ = some (.slice oa1 on1 oc1) := z1.c1
          have m2 : V2.cell? ⟨g1, 2, none⟩ = some (.slice na1 nn1 nc1) := z1.c2
          have r0 := a2.c0
          have r1 : V2.cell? ⟨g2, 1, none⟩ = some (.slice oa2 on2 oc2) := a2.c1
          have r2 : V2.cell? ⟨g2, 2, none⟩ = some (.slice na2 nn2 nc2) := a2.c2
          have H6 := Lib.hid (And.intro hV2 (below_on H5.out.2.2.2 bb2))
          clear hV2 hbV2 a2 bb2 cc2 hc2 hb2 e2 z1 k1
          go_upto_region 11 with fail
          rw [← hg2, ← H6.out.1]
          clear hg2
          go_wp2_with fail
          refine sm.mono ?_
          rintro e w5 ⟨rfl, hb5⟩
          have H7 := Lib.hid (below_on hB.out (below_on H6.out.2 hb5))
          clear sm hb5 m0 m1 m2 r0 r1 r2
          go_wp2
          go_roundw
          case rel => exact ⟨k + 1, by omega, by go_num, H7⟩
          case measure => simp [RowKit.intOf]; omega
      · have x5 : min m 1100 = m := by omega
        clear hTF
        go_wp2
        obtain ⟨w2, hw2⟩ : ∃ w2, w2 = w1.alloc (.cells #[.int .i64 f, .int .i64 t, .int .i64 d, .int .i64 T, .int .i64 F, .int .i64 d, .int .i64 F, .int .i64 T, .int .i64 1, .int .i64 F, .int .i64 F, .int .i64 m] 43) := ⟨_, rfl⟩
        obtain ⟨gA, hgA⟩ : ∃ gA, gA = w1.heap.size := ⟨_, rfl⟩
        have hr2 : w2.heap[gA]? = some (.cells #[.int .i64 f, .int .i64 t, .int .i64 d, .int .i64 T, .int .i64 F, .int .i64 d, .int .i64 F, .int .i64 T, .int .i64 1, .int .i64 F, .int .i64 F, .int .i64 m] 43 (0, 0)) := by rw [hw2, hgA]; exact heap_alloc_new w1 _
        have hb2 : Below w1.heap.size w1 w2 := by rw [hw2]; exact one_below _ _
        have hgl : gA < w2.heap.size := (Array.getElem?_eq_some_iff.1 hr2).1
        rw [← hgA, ← hw2]
        have H2 := Lib.hid (And.intro hr2 (below_on HB1.out hb2))
        clear hw2 hgA hr2 hb2 x1 x2 x3 x4 x5 hd2 hdb
        go_loopw [61] (fun i wr => ∃ k : Nat, k ≤ 4 ∧ i = .int .i64 k ∧ Hid (Below w2.heap.size w2 wr)) (fun i _ => 4 - (RowKit.intOf i).toNat)
        case atStart => exact ⟨0, by omega, rfl, Below.refl _ _⟩
        case round =>
          obtain ⟨k, hk, rfl, hB⟩ := hrel
          by_cases hk4 : k < 4
          rotate_left
          · obtain rfl : k = 4 := by omega
            go_wp2
            go_ret
            exact ⟨rfl, below_on H2.out.2 hB.out⟩
          have hrr := (hB.out.block gA hgl).trans H2.out.1
          obtain ⟨x0, hx0⟩ : ∃ x0, x0 = G12 f t d T F F T m (k * 3) := ⟨_, rfl⟩
          obtain ⟨x1, hx1⟩ : ∃ x1, x1 = G12 f t d T F F T m (k * 3 + 1) := ⟨_, rfl⟩
          obtain ⟨x2, hx2⟩ : ∃ x2, x2 = G12 f t d T F F T m (k * 3 + 2) := ⟨_, rfl⟩
          have c0 := cell12 hrr (k * 3) (by omega)
          have c1 := cell12 hrr (k * 3 + 1) (by omega)
          have c2 := cell12 hrr (k * 3 + 2) (by omega)
          rw [← hx0] at c0
          rw [← hx1] at c1
          rw [← hx2] at c2
          have hkl : (k : Int) < 4 := by omega
          have hkw : IntKind.i64.wrap ((k : Int) + 1) = ((k + 1 : Nat) : Int) := by rw [IntKind.wrap_i64]; omega
          have hb0 := below_on H2.out.2 hB.out
          have HH := Lib.hid (And.intro hb0 (SrcV.below HI.out.1 hb0))
          clear hrr hx0 hx1 hx2 hb0
          obtain ⟨V0, hV0⟩ : ∃ V0, V0 = wr.alloc (.cells #[.int .i64 x0, .int .i64 x1, .int .i64 x2] 43) := ⟨_, rfl⟩
          obtain ⟨g0, hg0⟩ : ∃ g0, g0 = wr.heap.size := ⟨_, rfl⟩
          have hbV0 : Below wr.heap.size wr V0 := by rw [hV0]; exact one_below _ _
          have a0 : V0.heap[g0]? = some (.cells #[.int .i64 x0, .int .i64 x1, .int .i64 x2] 43 (0, 0)) := by rw [hV0, hg0]; exact heap_alloc_new wr _
          have hg0l : g0 < V0.heap.size := (Array.getElem?_eq_some_iff.1 a0).1
          have y0 : V0.cell? ⟨g0, 0, none⟩ = some (.int .i64 x0) := (cell_of_row V0 _ 0 _ _ _ a0).trans (by simp)
          have y1 : V0.cell? ⟨g0, 1, none⟩ = some (.int .i64 x1) := (cell_of_row V0 _ 1 _ _ _ a0).trans (by simp)
          have y2 : V0.cell? ⟨g0, 2, none⟩ = some (.int .i64 x2) := (cell_of_row V0 _ 2 _ _ _ a0).trans (by simp)
          have sc := fun W (hW : Below wr.heap.size wr W) => shift_any a n c' ls x0 x1 x2 left W (SrcV.below HH.out.2 hW) (by have := H1.out.1; omega) (by have := H1.out.2.1; omega)
          have sd := fun W (hW : Below wr.heap.size wr W) => shift19_any a n c' ls x0 x1 x2 left W (SrcV.below HH.out.2 hW) (by have := H1.out.1; omega) (by have := H1.out.2.1; omega)
          obtain ⟨⟨rc, rb⟩, hR⟩ : ∃ R, R = shn ls x0 x1 x2 left := ⟨_, rfl⟩
          rw [← hR] at sc sd
          have e1 := sc V0 hbV0
          have H3 := Lib.hid (And.intro hV0 (And.intro a0 hbV0))
          clear hR hV0 a0 hbV0 sc
          go_upto_region 9 with fail
          rw [← hg0, ← H3.out.1]
          clear c0 c1 c2 hg0
          go_wp2_with fail
          clear y0 y1 y2
          refine e1.mono ?_
          rintro e w1 ⟨⟨f1, ⟨oa1, on1, oc1⟩, na1, nn1, nc1⟩, rfl, hc1, hb1⟩
          simp only [cv, sv]
          obtain ⟨V1, hV1⟩ : ∃ V1, V1 = w1.alloc (.cells #[.int .i64 f1, .slice oa1 on1 oc1, .slice na1 nn1 nc1] 31) := ⟨_, rfl⟩
          obtain ⟨g1, hg1⟩ : ∃ g1, g1 = w1.heap.size := ⟨_, rfl⟩
          have hbV1 : Below w1.heap.size w1 V1 := by rw [hV1]; exact one_below _ _
          have a1 : ChAt V1 g1 (f1, (oa1, on1, oc1), (na1, nn1, nc1)) := by rw [hV1, hg1]; exact ChAt.new w1 (f1, (oa1, on1, oc1), (na1, nn1, nc1))
          have bb1 := below_on hb1 hbV1
          have cc1 := hc1.below hbV1
          have b1 := below_on H3.out.2.2 bb1
          have e2 := sd V1 b1
          have a0 := (bb1.block g0 hg0l).trans H3.out.2.1
          have y0 : V1.cell? ⟨g0, 0, none⟩ = some (.int .i64 x0) := (cell_of_row V1 _ 0 _ _ _ a0).trans (by simp)
          have y1 : V1.cell? ⟨g0, 1, none⟩ = some (.int .i64 x1) := (cell_of_row V1 _ 1 _ _ _ a0).trans (by simp)
          have y2 : V1.cell? ⟨g0, 2, none⟩ = some (.int .i64 x2) := (cell_of_row V1 _ 2 _ _ _ a0).trans (by simp)
          have H5 := Lib.hid (And.intro hV1 (And.intro a1 (And.intro cc1 b1)))
          clear hV1 hbV1 a1 bb1 cc1 hc1 hb1 e1 sd a0 b1
          go_upto_region 10 with fail
          rw [← hg1, ← H5.out.1]
          clear hg1
          go_wp2_with fail
          clear y0 y1 y2
          refine e2.mono ?_
          rintro e w2 ⟨⟨f2, ⟨oa2, on2, oc2⟩, na2, nn2, nc2⟩, rfl, hc2, hb2⟩
          simp only [cv, sv]
          obtain ⟨V2, hV2⟩ : ∃ V2, V2 = w2.alloc (.cells #[.int .i64 f2, .slice oa2 on2 oc2, .slice na2 nn2 nc2] 31) := ⟨_, rfl⟩
          obtain ⟨g2, hg2⟩ : ∃ g2, g2 = w2.heap.size := ⟨_, rfl⟩
          have hbV2 : Below w2.heap.size w2 V2 := by rw [hV2]; exact one_below _ _
          have a2 : ChAt V2 g2 (f2, (oa2, on2, oc2), (na2, nn2, nc2)) := by rw [hV2, hg2]; exact ChAt.new w2 (f2, (oa2, on2, oc2), (na2, nn2, nc2))
          have bb2 := below_on hb2 hbV2
          have cc2 := hc2.below hbV2
          have z1 := H5.out.2.1.below bb2 H5.out.2.1.lt
          have k1 := H5.out.2.2.1.below bb2
          have sm := same_any f1 oa1 on1 oc1 na1 nn1 nc1 f2 oa2 on2 oc2 na2 nn2 nc2 rc rc rb rb V2 k1 cc2
          rw [decide_eq_true rfl, decide_eq_true rfl] at sm
          have m0 := z1.c0
          have m1 : V2.cell? ⟨g1, 1, none⟩ = some (.slice oa1 on1 oc1) := z1.c1
          have m2 : V2.cell? ⟨g1, 2, none⟩ = some (.slice na1 nn1 nc1) := z1.c2
          have r0 := a2.c0
          have r1 : V2.cell? ⟨g2, 1, none⟩ = some (.slice oa2 on2 oc2) := a2.c1
          have r2 : V2.cell? ⟨g2, 2, none⟩ = some (.slice na2 nn2 nc2) := a2.c2
          have H6 := Lib.hid (And.intro hV2 (below_on H5.out.2.2.2 bb2))
          clear hV2 hbV2 a2 bb2 cc2 hc2 hb2 e2 z1 k1
          go_upto_region 11 with fail
          rw [← hg2, ← H6.out.1]
          clear hg2
          go_wp2_with fail
          refine sm.mono ?_
          rintro e w5 ⟨rfl, hb5⟩
          have H7 := Lib.hid (below_on hB.out (below_on H6.out.2 hb5))
          clear sm hb5 m0 m1 m2 r0 r1 r2
          go_wp2
          go_roundw
          case rel => exact ⟨k + 1, by omega, by go_num, H7⟩
          case measure => simp [RowKit.intOf]; omega
    · have x1 : ¬ (T : Int) < (F : Int) := by omega
      have x2 : True := trivial
      have x3 : min (F : Int) (T : Int) = (F : Int) := by omega
      have x4 : max (F : Int) (T : Int) = (T : Int) := by omega
      by_cases hFT : F < T
      · have x6 : (F : Int) < (T : Int) := by omega
        by_cases hm1 : (1100 : Int) < m
        · have x5 : min m 1100 = 1100 := by omega
          clear hTF
          go_wp2
          obtain ⟨w2, hw2⟩ : ∃ w2, w2 = w1.alloc (.cells #[.int .i64 f, .int .i64 t, .int .i64 d, .int .i64 F, .int .i64 T, .int .i64 d, .int .i64 F, .int .i64 T, .int .i64 1, .int .i64 F, .int .i64 F, .int .i64 1100] 43) := ⟨_, rfl⟩
          obtain ⟨gA, hgA⟩ : ∃ gA, gA = w1.heap.size := ⟨_, rfl⟩
          have hr2 : w2.heap[gA]? = some (.cells #[.int .i64 f, .int .i64 t, .int .i64 d, .int .i64 F, .int .i64 T, .int .i64 d, .int .i64 F, .int .i64 T, .int .i64 1, .int .i64 F, .int .i64 F, .int .i64 1100] 43 (0, 0)) := by rw [hw2, hgA]; exact heap_alloc_new w1 _
          have hb2 : Below w1.heap.size w1 w2 := by rw [hw2]; exact one_below _ _
          have hgl : gA < w2.heap.size := (Array.getElem?_eq_some_iff.1 hr2).1
          rw [← hgA, ← hw2]
          have H2 := Lib.hid (And.intro hr2 (below_on HB1.out hb2))
          clear hw2 hgA hr2 hb2 x1 x2 x3 x4 x5 x6 hd2 hdb
          go_loopw [61] (fun i wr => ∃ k : Nat, k ≤ 4 ∧ i = .int .i64 k ∧ Hid (Below w2.heap.size w2 wr)) (fun i _ => 4 - (RowKit.intOf i).toNat)
          case atStart => exact ⟨0, by omega, rfl, Below.refl _ _⟩
          case round =>
            obtain ⟨k, hk, rfl, hB⟩ := hrel
            by_cases hk4 : k < 4
            rotate_left
            · obtain rfl : k = 4 := by omega
              go_wp2
              go_ret
              exact ⟨rfl, below_on H2.out.2 hB.out⟩
            have hrr := (hB.out.block gA hgl).trans H2.out.1
            obtain ⟨x0, hx0⟩ : ∃ x0, x0 = G12 f t d F T F T 1100 (k * 3) := ⟨_, rfl⟩
            obtain ⟨x1, hx1⟩ : ∃ x1, x1 = G12 f t d F T F T 1100 (k * 3 + 1) := ⟨_, rfl⟩
            obtain ⟨x2, hx2⟩ : ∃ x2, x2 = G12 f t d F T F T 1100 (k * 3 + 2) := ⟨_, rfl⟩
            have c0 := cell12 hrr (k * 3) (by omega)
            have c1 := cell12 hrr (k * 3 + 1) (by omega)
            have c2 := cell12 hrr (k * 3 + 2) (by omega)
            rw [← hx0] at c0
            rw [← hx1] at c1
            rw [← hx2] at c2
            have hkl : (k : Int) < 4 := by omega
            have hkw : IntKind.i64.wrap ((k : Int) + 1) = ((k + 1 : Nat) : Int) := by rw [IntKind.wrap_i64]; omega
            have hb0 := below_on H2.out.2 hB.out
            have HH := Lib.hid (And.intro hb0 (SrcV.below HI.out.1 hb0))
            clear hrr hx0 hx1 hx2 hb0
            obtain ⟨V0, hV0⟩ : ∃ V0, V0 = wr.alloc (.cells #[.int .i64 x0, .int .i64 x1, .int .i64 x2] 43) := ⟨_, rfl⟩
            obtain ⟨g0, hg0⟩ : ∃ g0, g0 = wr.heap.size := ⟨_, rfl⟩
            have hbV0 : Below wr.heap.size wr V0 := by rw [hV0]; exact one_below _ _
            have a0 : V0.heap[g0]? = some (.cells #[.int .i64 x0, .int .i64 x1, .int .i64 x2] 43 (0, 0)) := by rw [hV0, hg0]; exact heap_alloc_new wr _
            have hg0l : g0 < V0.heap.size := (Array.getElem?_eq_some_iff.1 a0).1
            have y0 : V0.cell? ⟨g0, 0, none⟩ = some (.int .i64 x0) := (cell_of_row V0 _ 0 _ _ _ a0).trans (by simp)
            have y1 : V0.cell? ⟨g0, 1, none⟩ = some (.int .i64 x1) := (cell_of_row V0 _ 1 _ _ _ a0).trans (by simp)
            have y2 : V0.cell? ⟨g0, 2, none⟩ = some (.int .i64 x2) := (cell_of_row V0 _ 2 _ _ _ a0).trans (by simp)
            have sc := fun W (hW : Below wr.heap.size wr W) => shift_any a n c' ls x0 x1 x2 left W (SrcV.below HH.out.2 hW) (by have := H1.out.1; omega) (by have := H1.out.2.1; omega)
            have sd := fun W (hW : Below wr.heap.size wr W) => shift19_any a n c' ls x0 x1 x2 left W (SrcV.below HH.out.2 hW) (by have := H1.out.1; omega) (by have := H1.out.2.1; omega)
            obtain ⟨⟨rc, rb⟩, hR⟩ : ∃ R, R = shn ls x0 x1 x2 left := ⟨_, rfl⟩
            rw [← hR] at sc sd
            have e1 := sc V0 hbV0
            have H3 := Lib.hid (And.intro hV0 (And.intro a0 hbV0))
            clear hR hV0 a0 hbV0 sc
            go_upto_region 9 with fail
            rw [← hg0, ← H3.out.1]
            clear c0 c1 c2 hg0
            go_wp2_with fail
            clear y0 y1 y2
            refine e1.mono ?_
            rintro e w1 ⟨⟨f1, ⟨oa1, on1, oc1⟩, na1, nn1, nc1⟩, rfl, hc1, hb1⟩
            simp only [cv, sv]
            obtain ⟨V1, hV1⟩ : ∃ V1, V1 = w1.alloc (.cells #[.int .i64 f1, .slice oa1 on1 oc1, .slice na1 nn1 nc1] 31) := ⟨_, rfl⟩
            obtain ⟨g1, hg1⟩ : ∃ g1, g1 = w1.heap.size := ⟨_, rfl⟩
            have hbV1 : Below w1.heap.size w1 V1 := by rw [hV1]; exact one_below _ _
            have a1 : ChAt V1 g1 (f1, (oa1, on1, oc1), (na1, nn1, nc1)) := by rw [hV1, hg1]; exact ChAt.new w1 (f1, (oa1, on1, oc1), (na1, nn1, nc1))
            have bb1 := below_on hb1 hbV1
            have cc1 := hc1.below hbV1
            have b1 := below_on H3.out.2.2 bb1
            have e2 := sd V1 b1
            have a0 := (bb1.block g0 hg0l).trans H3.out.2.1
            have y0 : V1.cell? ⟨g0, 0, none⟩ = some (.int .i64 x0) := (cell_of_row V1 _ 0 _ _ _ a0).trans (by simp)
            have y1 : V1.cell? ⟨g0, 1, none⟩ = some (.int .i64 x1) := (cell_of_row V1 _ 1 _ _ _ a0).trans (by simp)
            have y2 : V1.cell? ⟨g0, 2, none⟩ = some (.int .i64 x2) := (cell_of_row V1 _ 2 _ _ _ a0).trans (by simp)
            have H5 := Lib.hid (And.intro hV1 (And.intro a1 (And.intro cc1 b1)))
            clear hV1 hbV1 a1 bb1 cc1 hc1 hb1 e1 sd a0 b1
            go_upto_region 10 with fail
            rw [← hg1, ← H5.out.1]
            clear hg1
            go_wp2_with fail
            clear y0 y1 y2
            refine e2.mono ?_
            rintro e w2 ⟨⟨f2, ⟨oa2, on2, oc2⟩, na2, nn2, nc2⟩, rfl, hc2, hb2⟩
            simp only [cv, sv]
            obtain ⟨V2, hV2⟩ : ∃ V2, V2 = w2.alloc (.cells #[.int .i64 f2, .slice oa2 on2 oc2, .slice na2 nn2 nc2] 31) := ⟨_, rfl⟩
            obtain ⟨g2, hg2⟩ : ∃ g2, g2 = w2.heap.size := ⟨_, rfl⟩
            have hbV2 : Below w2.heap.size w2 V2 := by rw [hV2]; exact one_below _ _
            have a2 : ChAt V2 g2 (f2, (oa2, on2, oc2), (na2, nn2, nc2)) := by rw [hV2, hg2]; exact ChAt.new w2 (f2, (oa2, on2, oc2), (na2, nn2, nc2))
            have bb2 := below_on hb2 hbV2
            have cc2 := hc2.below hbV2
            have z1 := H5.out.2.1.below bb2 H5.out.2.1.lt
            have k1 := H5.out.2.2.1.below bb2
            have sm := same_any f1 oa1 on1 oc1 na1 nn1 nc1 f2 oa2 on2 oc2 na2 nn2 nc2 rc rc rb rb V2 k1 cc2
            rw [decide_eq_true rfl, decide_eq_true rfl] at sm
            have m0 := z1.c0
            have m1 : V2.cell? ⟨g1, 1, none⟩ = some (.slice oa1 on1 oc1) := z1.c1
            have m2 : V2.cell? ⟨g1, 2, none⟩ = some (.slice na1 nn1 nc1) := z1.c2
            have r0 := a2.c0
            have r1 : V2.cell? ⟨g2, 1, none⟩ = some (.slice oa2 on2 oc2) := a2.c1
            have r2 : V2.cell? ⟨g2, 2, none⟩ = some (.slice na2 nn2 nc2) := a2.c2
            have H6 := Lib.hid (And.intro hV2 (below_on H5.out.2.2.2 bb2))
            clear hV2 hbV2 a2 bb2 cc2 hc2 hb2 e2 z1 k1
            go_upto_region 11 with fail
            rw [← hg2, ← H6.out.1]
            clear hg2
            go_wp2_with fail
            refine sm.mono ?_
            rintro e w5 ⟨rfl, hb5⟩
            have H7 := Lib.hid (below_on hB.out (below_on H6.out.2 hb5))
            clear sm hb5 m0 m1 m2 r0 r1 r2
            go_wp2
            go_roundw
            case rel => exact ⟨k + 1, by omega, by go_num, H7⟩
            case measure => simp [RowKit.intOf]; omega
        · have x5 : min m 1100 = m := by omega
          clear hTF
          go_wp2
          obtain ⟨w2, hw2⟩ : ∃ w2, w2 = w1.alloc (.cells #[.int .i64 f, .int .i64 t, .int .i64 d, .int .i64 F, .int .i64 T, .int .i64 d, .int .i64 F, .int .i64 T, .int .i64 1, .int .i64 F, .int .i64 F, .int .i64 m] 43) := ⟨_, rfl⟩
          obtain ⟨gA, hgA⟩ : ∃ gA, gA = w1.heap.size := ⟨_, rfl⟩
          have hr2 : w2.heap[gA]? = some (.cells #[.int .i64 f, .int .i64 t, .int .i64 d, .int .i64 F, .int .i64 T, .int .i64 d, .int .i64 F, .int .i64 T, .int .i64 1, .int .i64 F, .int .i64 F, .int .i64 m] 43 (0, 0)) := by rw [hw2, hgA]; exact heap_alloc_new w1 _
          have hb2 : Below w1.heap.size w1 w2 := by rw [hw2]; exact one_below _ _
          have hgl : gA < w2.heap.size := (Array.getElem?_eq_some_iff.1 hr2).1
          rw [← hgA, ← hw2]
          have H2 := Lib.hid (And.intro hr2 (below_on HB1.out hb2))
          clear hw2 hgA hr2 hb2 x1 x2 x3 x4 x5 x6 hd2 hdb
          go_loopw [61] (fun i wr => ∃ k : Nat, k ≤ 4 ∧ i = .int .i64 k ∧ Hid (Below w2.heap.size w2 wr)) (fun i _ => 4 - (RowKit.intOf i).toNat)
          case atStart => exact ⟨0, by omega, rfl, Below.refl _ _⟩
          case round =>
            obtain ⟨k, hk, rfl, hB⟩ := hrel
            by_cases hk4 : k < 4
            rotate_left
            · obtain rfl : k = 4 := by omega
              go_wp2
              go_ret
              exact ⟨rfl, below_on H2.out.2 hB.out⟩
            have hrr := (hB.out.block gA hgl).trans H2.out.1
            obtain ⟨x0, hx0⟩ : ∃ x0, x0 = G12 f t d F T F T m (k * 3) := ⟨_, rfl⟩
            obtain ⟨x1, hx1⟩ : ∃ x1, x1 = G12 f t d F T F T m (k * 3 + 1) := ⟨_, rfl⟩
            obtain ⟨x2, hx2⟩ : ∃ x2, x2 = G12 f t d F T F T m (k * 3 + 2) := ⟨_, rfl⟩
            have c0 := cell12 hrr (k * 3) (by omega)
            have c1 := cell12 hrr (k * 3 + 1) (by omega)
            have c2 := cell12 hrr (k * 3 + 2) (by omega)
            rw [← hx0] at c0
            rw [← hx1] at c1
            rw [← hx2] at c2
            have hkl : (k : Int) < 4 := by omega
            have hkw : IntKind.i64.wrap ((k : Int) + 1) = ((k + 1 : Nat) : Int) := by rw [IntKind.wrap_i64]; omega
            have hb0 := below_on H2.out.2 hB.out
            have HH := Lib.hid (And.intro hb0 (SrcV.below HI.out.1 hb0))
            clear hrr hx0 hx1 hx2 hb0
            obtain ⟨V0, hV0⟩ : ∃ V0, V0 = wr.alloc (.cells #[.int .i64 x0, .int .i64 x1, .int .i64 x2] 43) := ⟨_, rfl⟩
            obtain ⟨g0, hg0⟩ : ∃ g0, g0 = wr.heap.size := ⟨_, rfl⟩
            have hbV0 : Below wr.heap.size wr V0 := by rw [hV0]; exact one_below _ _
            have a0 : V0.heap[g0]? = some (.cells #[.int .i64 x0, .int .i64 x1, .int .i64 x2] 43 (0, 0)) := by rw [hV0, hg0]; exact heap_alloc_new wr _
            have hg0l : g0 < V0.heap.size := (Array.getElem?_eq_some_iff.1 a0).1
            have y0 : V0.cell? ⟨g0, 0, none⟩ = some (.int .i64 x0) := (cell_of_row V0 _ 0 _ _ _ a0).trans (by simp)
            have y1 : V0.cell? ⟨g0, 1, none⟩ = some (.int .i64 x1) := (cell_of_row V0 _ 1 _ _ _ a0).trans (by simp)
            have y2 : V0.cell? ⟨g0, 2, none⟩ = some (.int .i64 x2) := (cell_of_row V0 _ 2 _ _ _ a0).trans (by simp)
            have sc := fun W (hW : Below wr.heap.size wr W) => shift_any a n c' ls x0 x1 x2 left W (SrcV.below HH.out.2 hW) (by have := H1.out.1; omega) (by have := H1.out.2.1; omega)
            have sd := fun W (hW : Below wr.heap.size wr W) => shift19_any a n c' ls x0 x1 x2 left W (SrcV.below HH.out.2 hW) (by have := H1.out.1; omega) (by have := H1.out.2.1; omega)
            obtain ⟨⟨rc, rb⟩, hR⟩ : ∃ R, R = shn ls x0 x1 x2 left := ⟨_, rfl⟩
            rw [← hR] at sc sd
            have e1 := sc V0 hbV0
            have H3 := Lib.hid (And.intro hV0 (And.intro a0 hbV0))
            clear hR hV0 a0 hbV0 sc
            go_upto_region 9 with fail
            rw [← hg0, ← H3.out.1]
            clear c0 c1 c2 hg0
            go_wp2_with fail
            clear y0 y1 y2
            refine e1.mono ?_
            rintro e w1 ⟨⟨f1, ⟨oa1, on1, oc1⟩, na1, nn1, nc1⟩, rfl, hc1, hb1⟩
            simp only [cv, sv]
            obtain ⟨V1, hV1⟩ : ∃ V1, V1 = w1.alloc (.cells #[.int .i64 f1, .slice oa1 on1 oc1, .slice na1 nn1 nc1] 31) := ⟨_, rfl⟩
            obtain ⟨g1, hg1⟩ : ∃ g1, g1 = w1.heap.size := ⟨_, rfl⟩
            have hbV1 : Below w1.heap.size w1 V1 := by rw [hV1]; exact one_below _ _
            have a1 : ChAt V1 g1 (f1, (oa1, on1, oc1), (na1, nn1, nc1)) := by rw [hV1, hg1]; exact ChAt.new w1 (f1, (oa1, on1, oc1), (na1, nn1, nc1))
            have bb1 := below_on hb1 hbV1
            have cc1 := hc1.below hbV1
            have b1 := below_on H3.out.2.2 bb1
            have e2 := sd V1 b1
            have a0 := (bb1.block g0 hg0l).trans H3.out.2.1
            have y0 : V1.cell? ⟨g0, 0, none⟩ = some (.int .i64 x0) := (cell_of_row V1 _ 0 _ _ _ a0).trans (by simp)
            have y1 : V1.cell? ⟨g0, 1, none⟩ = some (.int .i64 x1) := (cell_of_row V1 _ 1 _ _ _ a0).trans (by simp)
            have y2 : V1.cell? ⟨g0, 2, none⟩ = some (.int .i64 x2) := (cell_of_row V1 _ 2 _ _ _ a0).trans (by simp)
            have H5 := Lib.hid (And.intro hV1 (And.intro a1 (And.intro cc1 b1)))
            clear hV1 hbV1 a1 bb1 cc1 hc1 hb1 e1 sd a0 b1
            go_upto_region 10 with fail
            rw [← hg1, ← H5.out.1]
            clear hg1
            go_wp2_with fail
            clear y0 y1 y2
            refine e2.mono ?_
            rintro e w2 ⟨⟨f2, ⟨oa2, on2, oc2⟩, na2, nn2, nc2⟩, rfl, hc2, hb2⟩
            simp only [cv, sv]
            obtain ⟨V2, hV2⟩ : ∃ V2, V2 = w2.alloc (.cells #[.int .i64 f2, .slice oa2 on2 oc2, .slice na2 nn2 nc2] 31) := ⟨_, rfl⟩
            obtain ⟨g2, hg2⟩ : ∃ g2, g2 = w2.heap.size := ⟨_, rfl⟩
            have hbV2 : Below w2.heap.size w2 V2 := by rw [hV2]; exact one_below _ _
            have a2 : ChAt V2 g2 (f2, (oa2, on2, oc2), (na2, nn2, nc2)) := by rw [hV2, hg2]; exact ChAt.new w2 (f2, (oa2, on2, oc2), (na2, nn2, nc2))
            have bb2 := below_on hb2 hbV2
            have cc2 := hc2.below hbV2
            have z1 := H5.out.2.1.below bb2 H5.out.2.1.lt
            have k1 := H5.out.2.2.1.below bb2
            have sm := same_any f1 oa1 on1 oc1 na1 nn1 nc1 f2 oa2 on2 oc2 na2 nn2 nc2 rc rc rb rb V2 k1 cc2
            rw [decide_eq_true rfl, decide_eq_true rfl] at sm
            have m0 := z1.c0
            have m1 : V2.cell? ⟨g1, 1, none⟩ = some (.slice oa1 on1 oc1) := z1.c1
            have m2 : V2.cell? ⟨g1, 2, none⟩ = some (.slice na1 nn1 nc1) := z1.c2
            have r0 := a2.c0
            have r1 : V2.cell? ⟨g2, 1, none⟩ = some (.slice oa2 on2 oc2) := a2.c1
            have r2 : V2.cell? ⟨g2, 2, none⟩ = some (.slice na2 nn2 nc2) := a2.c2
            have H6 := Lib.hid (And.intro hV2 (below_on H5.out.2.2.2 bb2))
            clear hV2 hbV2 a2 bb2 cc2 hc2 hb2 e2 z1 k1
            go_upto_region 11 with fail
            rw [← hg2, ← H6.out.1]
            clear hg2
            go_wp2_with fail
            refine sm.mono ?_
            rintro e w5 ⟨rfl, hb5⟩
            have H7 := Lib.hid (below_on hB.out (below_on H6.out.2 hb5))
            clear sm hb5 m0 m1 m2 r0 r1 r2
            go_wp2
            go_roundw
            case rel => exact ⟨k + 1, by omega, by go_num, H7⟩
            case measure => simp [RowKit.intOf]; omega
      · have x6 : ¬ (F : Int) < (T : Int) := by omega
        by_cases hm1 : (1100 : Int) < m
        · have x5 : min m 1100 = 1100 := by omega
          clear hTF
          go_wp2
          obtain ⟨w2, hw2⟩ : ∃ w2, w2 = w1.alloc (.cells #[.int .i64 f, .int .i64 t, .int .i64 d, .int .i64 F, .int .i64 T, .int .i64 d, .int .i64 F, .int .i64 T, .int .i64 1, .int .i64 F, .int .i64 F, .int .i64 1100] 43) := ⟨_, rfl⟩
          obtain ⟨gA, hgA⟩ : ∃ gA, gA = w1.heap.size := ⟨_, rfl⟩
          have hr2 : w2.heap[gA]? = some (.cells #[.int .i64 f, .int .i64 t, .int .i64 d, .int .i64 F, .int .i64 T, .int .i64 d, .int .i64 F, .int .i64 T, .int .i64 1, .int .i64 F, .int .i64 F, .int .i64 1100] 43 (0, 0)) := by rw [hw2, hgA]; exact heap_alloc_new w1 _
          have hb2 : Below w1.heap.size w1 w2 := by rw [hw2]; exact one_below _ _
          have hgl : gA < w2.heap.size := (Array.getElem?_eq_some_iff.1 hr2).1
          rw [← hgA, ← hw2]
          have H2 := Lib.hid (And.intro hr2 (below_on HB1.out hb2))
          clear hw2 hgA hr2 hb2 x1 x2 x3 x4 x5 x6 hd2 hdb
          go_loopw [61] (fun i wr => ∃ k : Nat, k ≤ 4 ∧ i = .int .i64 k ∧ Hid (Below w2.heap.size w2 wr)) (fun i _ => 4 - (RowKit.intOf i).toNat)
          case atStart => exact ⟨0, by omega, rfl, Below.refl _ _⟩
          case round =>
            obtain ⟨k, hk, rfl, hB⟩ := hrel
            by_cases hk4 : k < 4
            rotate_left
            · obtain rfl : k = 4 := by omega
              go_wp2
              go_ret
              exact ⟨rfl, below_on H2.out.2 hB.out⟩
            have hrr := (hB.out.block gA hgl).trans H2.out.1
            obtain ⟨x0, hx0⟩ : ∃ x0, x0 = G12 f t d F T F T 1100 (k * 3) := ⟨_, rfl⟩
            obtain ⟨x1, hx1⟩ : ∃ x1, x1 = G12 f t d F T F T 1100 (k * 3 + 1) := ⟨_, rfl⟩
            obtain ⟨x2, hx2⟩ : ∃ x2, x2 = G12 f t d F T F T 1100 (k * 3 + 2) := ⟨_, rfl⟩
            have c0 := cell12 hrr (k * 3) (by omega)
            have c1 := cell12 hrr (k * 3 + 1) (by omega)
            have c2 := cell12 hrr (k * 3 + 2) (by omega)
            rw [← hx0] at c0
            rw [← hx1] at c1
            rw [← hx2] at c2
            have hkl : (k : Int) < 4 := by omega
            have hkw : IntKind.i64.wrap ((k : Int) + 1) = ((k + 1 : Nat) : Int) := by rw [IntKind.wrap_i64]; omega
            have hb0 := below_on H2.out.2 hB.out
            have HH := Lib.hid (And.intro hb0 (SrcV.below HI.out.1 hb0))
            clear hrr hx0 hx1 hx2 hb0
            obtain ⟨V0, hV0⟩ : ∃ V0, V0 = wr.alloc (.cells #[.int .i64 x0, .int .i64 x1, .int .i64 x2] 43) := ⟨_, rfl⟩
            obtain ⟨g0, hg0⟩ : ∃ g0, g0 = wr.heap.size := ⟨_, rfl⟩
            have hbV0 : Below wr.heap.size wr V0 := by rw [hV0]; exact one_below _ _
            have a0 : V0.heap[g0]? = some (.cells #[.int .i64 x0, .int .i64 x1, .int .i64 x2] 43 (0, 0)) := by rw [hV0, hg0]; exact heap_alloc_new wr _
            have hg0l : g0 < V0.heap.size := (Array.getElem?_eq_some_iff.1 a0).1
            have y0 : V0.cell? ⟨g0, 0, none⟩ = some (.int .i64 x0) := (cell_of_row V0 _ 0 _ _ _ a0).trans (by simp)
            have y1 : V0.cell? ⟨g0, 1, none⟩ = some (.int .i64 x1) := (cell_of_row V0 _ 1 _ _ _ a0).trans (by simp)
            have y2 : V0.cell? ⟨g0, 2, none⟩ = some (.int .i64 x2) := (cell_of_row V0 _ 2 _ _ _ a0).trans (by simp)
            have sc := fun W (hW : Below wr.heap.size wr W) => shift_any a n c' ls x0 x1 x2 left W (SrcV.below HH.out.2 hW) (by have := H1.out.1; omega) (by have := H1.out.2.1; omega)
            have sd := fun W (hW : Below wr.heap.size wr W) => shift19_any a n c' ls x0 x1 x2 left W (SrcV.below HH.out.2 hW) (by have := H1.out.1; omega) (by have := H1.out.2.1; omega)
            obtain ⟨⟨rc, rb⟩, hR⟩ : ∃ R, R = shn ls x0 x1 x2 left := ⟨_, rfl⟩
            rw [← hR] at sc sd
            have e1 := sc V0 hbV0
            have H3 := Lib.hid (And.intro hV0 (And.intro a0 hbV0))
            clear hR hV0 a0 hbV0 sc
            go_upto_region 9 with fail
            rw [← hg0, ← H3.out.1]
            clear c0 c1 c2 hg0
            go_wp2_with fail
            clear y0 y1 y2
            refine e1.mono ?_
            rintro e w1 ⟨⟨f1, ⟨oa1, on1, oc1⟩, na1, nn1, nc1⟩, rfl, hc1, hb1⟩
            simp only [cv, sv]
            obtain ⟨V1, hV1⟩ : ∃ V1, V1 = w1.alloc (.cells #[.int .i64 f1, .slice oa1 on1 oc1, .slice na1 nn1 nc1] 31) := ⟨_, rfl⟩
            obtain ⟨g1, hg1⟩ : ∃ g1, g1 = w1.heap.size := ⟨_, rfl⟩
            have hbV1 : Below w1.heap.size w1 V1 := by rw [hV1]; exact one_below _ _
            have a1 : ChAt V1 g1 (f1, (oa1, on1, oc1), (na1, nn1, nc1)) := by rw [hV1, hg1]; exact ChAt.new w1 (f1, (oa1, on1, oc1), (na1, nn1, nc1))
            have bb1 := below_on hb1 hbV1
            have cc1 := hc1.below hbV1
            have b1 := below_on H3.out.2.2 bb1
            have e2 := sd V1 b1
            have a0 := (bb1.block g0 hg0l).trans H3.out.2.1
            have y0 : V1.cell? ⟨g0, 0, none⟩ = some (.int .i64 x0) := (cell_of_row V1 _ 0 _ _ _ a0).trans (by simp)
            have y1 : V1.cell? ⟨g0, 1, none⟩ = some (.int .i64 x1) := (cell_of_row V1 _ 1 _ _ _ a0).trans (by simp)
            have y2 : V1.cell? ⟨g0, 2, none⟩ = some (.int .i64 x2) := (cell_of_row V1 _ 2 _ _ _ a0).trans (by simp)
            have H5 := Lib.hid (And.intro hV1 (And.intro a1 (And.intro cc1 b1)))
            clear hV1 hbV1 a1 bb1 cc1 hc1 hb1 e1 sd a0 b1
            go_upto_region 10 with fail
            rw [← hg1, ← H5.out.1]
            clear hg1
            go_wp2_with fail
            clear y0 y1 y2
            refine e2.mono ?_
            rintro e w2 ⟨⟨f2, ⟨oa2, on2, oc2⟩, na2, nn2, nc2⟩, rfl, hc2, hb2⟩
            simp only [cv, sv]
            obtain ⟨V2, hV2⟩ : ∃ V2, V2 = w2.alloc (.cells #[.int .i64 f2, .slice oa2 on2 oc2, .slice na2 nn2 nc2] 31) := ⟨_, rfl⟩
            obtain ⟨g2, hg2⟩ : ∃ g2, g2 = w2.heap.size := ⟨_, rfl⟩
            have hbV2 : Below w2.heap.size w2 V2 := by rw [hV2]; exact one_below _ _
            have a2 : ChAt V2 g2 (f2, (oa2, on2, oc2), (na2, nn2, nc2)) := by rw [hV2, hg2]; exact ChAt.new w2 (f2, (oa2, on2, oc2), (na2, nn2, nc2))
            have bb2 := below_on hb2 hbV2
            have cc2 := hc2.below hbV2
            have z1 := H5.out.2.1.below bb2 H5.out.2.1.lt
            have k1 := H5.out.2.2.1.below bb2
            have sm := same_any f1 oa1 on1 oc1 na1 nn1 nc1 f2 oa2 on2 oc2 na2 nn2 nc2 rc rc rb rb V2 k1 cc2
            rw [decide_eq_true rfl, decide_eq_true rfl] at sm
            have m0 := z1.c0
            have m1 : V2.cell? ⟨g1, 1, none⟩ = some (.slice oa1 on1 oc1) := z1.c1
            have m2 : V2.cell? ⟨g1, 2, none⟩ = some (.slice na1 nn1 nc1) := z1.c2
            have r0 := a2.c0
            have r1 : V2.cell? ⟨g2, 1, none⟩ = some (.slice oa2 on2 oc2) := a2.c1
            have r2 : V2.cell? ⟨g2, 2, none⟩ = some (.slice na2 nn2 nc2) := a2.c2
            have H6 := Lib.hid (And.intro hV2 (below_on H5.out.2.2.2 bb2))
            clear hV2 hbV2 a2 bb2 cc2 hc2 hb2 e2 z1 k1
            go_upto_region 11 with fail
            rw [← hg2, ← H6.out.1]
            clear hg2
            go_wp2_with fail
            refine sm.mono ?_
            rintro e w5 ⟨rfl, hb5⟩
            have H7 := Lib.hid (below_on hB.out (below_on H6.out.2 hb5))
            clear sm hb5 m0 m1 m2 r0 r1 r2
            go_wp2
            go_roundw
            case rel => exact ⟨k + 1, by omega, by go_num, H7⟩
            case measure => simp [RowKit.intOf]; omega
        · have x5 : min m 1100 = m := by omega
          clear hTF
          go_wp2
          obtain ⟨w2, hw2⟩ : ∃ w2, w2 = w1.alloc (.cells #[.int .i64 f, .int .i64 t, .int .i64 d, .int .i64 F, .int .i64 T, .int .i64 d, .int .i64 F, .int .i64 T, .int .i64 1, .int .i64 F, .int .i64 F, .int .i64 m] 43) := ⟨_, rfl⟩
          obtain ⟨gA, hgA⟩ : ∃ gA, gA = w1.heap.size := ⟨_, rfl⟩
          have hr2 : w2.heap[gA]? = some (.cells #[.int .i64 f, .int .i64 t, .int .i64 d, .int .i64 F, .int .i64 T, .int .i64 d, .int .i64 F, .int .i64 T, .int .i64 1, .int .i64 F, .int .i64 F, .int .i64 m] 43 (0, 0)) := by rw [hw2, hgA]; exact heap_alloc_new w1 _
          have hb2 : Below w1.heap.size w1 w2 := by rw [hw2]; exact one_below _ _
          have hgl : gA < w2.heap.size := (Array.getElem?_eq_some_iff.1 hr2).1
          rw [← hgA, ← hw2]
          have H2 := Lib.hid (And.intro hr2 (below_on HB1.out hb2))
          clear hw2 hgA hr2 hb2 x1 x2 x3 x4 x5 x6 hd2 hdb
          go_loopw [61] (fun i wr => ∃ k : Nat, k ≤ 4 ∧ i = .int .i64 k ∧ Hid (Below w2.heap.size w2 wr)) (fun i _ => 4 - (RowKit.intOf i).toNat)
          case atStart => exact ⟨0, by omega, rfl, Below.refl _ _⟩
          case round =>
            obtain ⟨k, hk, rfl, hB⟩ := hrel
            by_cases hk4 : k < 4
            rotate_left
            · obtain rfl : k = 4 := by omega
              go_wp2
              go_ret
              exact ⟨rfl, below_on H2.out.2 hB.out⟩
            have hrr := (hB.out.block gA hgl).trans H2.out.1
            obtain ⟨x0, hx0⟩ : ∃ x0, x0 = G12 f t d F T F T m (k * 3) := ⟨_, rfl⟩
            obtain ⟨x1, hx1⟩ : ∃ x1, x1 = G12 f t d F T F T m (k * 3 + 1) := ⟨_, rfl⟩
            obtain ⟨x2, hx2⟩ : ∃ x2, x2 = G12 f t d F T F T m (k * 3 + 2) := ⟨_, rfl⟩
            have c0 := cell12 hrr (k * 3) (by omega)
            have c1 := cell12 hrr (k * 3 + 1) (by omega)
            have c2 := cell12 hrr (k * 3 + 2) (by omega)
            rw [← hx0] at c0
            rw [← hx1] at c1
            rw [← hx2] at c2
            have hkl : (k : Int) < 4 := by omega
            have hkw : IntKind.i64.wrap ((k : Int) + 1) = ((k + 1 : Nat) : Int) := by rw [IntKind.wrap_i64]; omega
            have hb0 := below_on H2.out.2 hB.out
            have HH := Lib.hid (And.intro hb0 (SrcV.below HI.out.1 hb0))
            clear hrr hx0 hx1 hx2 hb0
            obtain ⟨V0, hV0⟩ : ∃ V0, V0 = wr.alloc (.cells #[.int .i64 x0, .int .i64 x1, .int .i64 x2] 43) := ⟨_, rfl⟩
            obtain ⟨g0, hg0⟩ : ∃ g0, g0 = wr.heap.size := ⟨_, rfl⟩
            have hbV0 : Below wr.heap.size wr V0 := by rw [hV0]; exact one_below _ _
            have a0 : V0.heap[g0]? = some (.cells #[.int .i64 x0, .int .i64 x1, .int .i64 x2] 43 (0, 0)) := by rw [hV0, hg0]; exact heap_alloc_new wr _
            have hg0l : g0 < V0.heap.size := (Array.getElem?_eq_some_iff.1 a0).1
            have y0 : V0.cell? ⟨g0, 0, none⟩ = some (.int .i64 x0) := (cell_of_row V0 _ 0 _ _ _ a0).trans (by simp)
            have y1 : V0.cell? ⟨g0, 1, none⟩ = some (.int .i64 x1) := (cell_of_row V0 _ 1 _ _ _ a0).trans (by simp)
            have y2 : V0.cell? ⟨g0, 2, none⟩ = some (.int .i64 x2) := (cell_of_row V0 _ 2 _ _ _ a0).trans (by simp)
            have sc := fun W (hW : Below wr.heap.size wr W) => shift_any a n c' ls x0 x1 x2 left W (SrcV.below HH.out.2 hW) (by have := H1.out.1; omega) (by have := H1.out.2.1; omega)
            have sd := fun W (hW : Below wr.heap.size wr W) => shift19_any a n c' ls x0 x1 x2 left W (SrcV.below HH.out.2 hW) (by have := H1.out.1; omega) (by have := H1.out.2.1; omega)
            obtain ⟨⟨rc, rb⟩, hR⟩ : ∃ R, R = shn ls x0 x1 x2 left := ⟨_, rfl⟩
            rw [← hR] at sc sd
            have e1 := sc V0 hbV0
            have H3 := Lib.hid (And.intro hV0 (And.intro a0 hbV0))
            clear hR hV0 a0 hbV0 sc
            go_upto_region 9 with fail
            rw [← hg0, ← H3.out.1]
            clear c0 c1 c2 hg0
            go_wp2_with fail
            clear y0 y1 y2
            refine e1.mono ?_
            rintro e w1 ⟨⟨f1, ⟨oa1, on1, oc1⟩, na1, nn1, nc1⟩, rfl, hc1, hb1⟩
            simp only [cv, sv]
            obtain ⟨V1, hV1⟩ : ∃ V1, V1 = w1.alloc (.cells #[.int .i64 f1, .slice oa1 on1 oc1, .slice na1 nn1 nc1] 31) := ⟨_, rfl⟩
            obtain ⟨g1, hg1⟩ : ∃ g1, g1 = w1.heap.size := ⟨_, rfl⟩
            have hbV1 : Below w1.heap.size w1 V1 := by rw [hV1]; exact one_below _ _
            have a1 : ChAt V1 g1 (f1, (oa1, on1, oc1), (na1, nn1, nc1)) := by rw [hV1, hg1]; exact ChAt.new w1 (f1, (oa1, on1, oc1), (na1, nn1, nc1))
            have bb1 := below_on hb1 hbV1
            have cc1 := hc1.below hbV1
            have b1 := below_on H3.out.2.2 bb1
            have e2 := sd V1 b1
            have a0 := (bb1.block g0 hg0l).trans H3.out.2.1
            have y0 : V1.cell? ⟨g0, 0, none⟩ = some (.int .i64 x0) := (cell_of_row V1 _ 0 _ _ _ a0).trans (by simp)
            have y1 : V1.cell? ⟨g0, 1, none⟩ = some (.int .i64 x1) := (cell_of_row V1 _ 1 _ _ _ a0).trans (by simp)
            have y2 : V1.cell? ⟨g0, 2, none⟩ = some (.int .i64 x2) := (cell_of_row V1 _ 2 _ _ _ a0).trans (by simp)
            have H5 := Lib.hid (And.intro hV1 (And.intro a1 (And.intro cc1 b1)))
            clear hV1 hbV1 a1 bb1 cc1 hc1 hb1 e1 sd a0 b1
            go_upto_region 10 with fail
            rw [← hg1, ← H5.out.1]
            clear hg1
            go_wp2_with fail
            clear y0 y1 y2
            refine e2.mono ?_
            rintro e w2 ⟨⟨f2, ⟨oa2, on2, oc2⟩, na2, nn2, nc2⟩, rfl, hc2, hb2⟩
            simp only [cv, sv]
            obtain ⟨V2, hV2⟩ : ∃ V2, V2 = w2.alloc (.cells #[.int .i64 f2, .slice oa2 on2 oc2, .slice na2 nn2 nc2] 31) := ⟨_, rfl⟩
            obtain ⟨g2, hg2⟩ : ∃ g2, g2 = w2.heap.size := ⟨_, rfl⟩
            have hbV2 : Below w2.heap.size w2 V2 := by rw [hV2]; exact one_below _ _
            have a2 : ChAt V2 g2 (f2, (oa2, on2, oc2), (na2, nn2, nc2)) := by rw [hV2, hg2]; exact ChAt.new w2 (f2, (oa2, on2, oc2), (na2, nn2, nc2))
            have bb2 := below_on hb2 hbV2
            have cc2 := hc2.below hbV2
            have z1 := H5.out.2.1.below bb2 H5.out.2.1.lt
            have k1 := H5.out.2.2.1.below bb2
            have sm := same_any f1 oa1 on1 oc1 na1 nn1 nc1 f2 oa2 on2 oc2 na2 nn2 nc2 rc rc rb rb V2 k1 cc2
            rw [decide_eq_true rfl, decide_eq_true rfl] at sm
            have m0 := z1.c0
            have m1 : V2.cell? ⟨g1, 1, none⟩ = some (.slice oa1 on1 oc1) := z1.c1
            have m2 : V2.cell? ⟨g1, 2, none⟩ = some (.slice na1 nn1 nc1) := z1.c2
            have r0 := a2.c0
            have r1 : V2.cell? ⟨g2, 1, none⟩ = some (.slice oa2 on2 oc2) := a2.c1
            have r2 : V2.cell? ⟨g2, 2, none⟩ = some (.slice na2 nn2 nc2) := a2.c2
            have H6 := Lib.hid (And.intro hV2 (below_on H5.out.2.2.2 bb2))
            clear hV2 hbV2 a2 bb2 cc2 hc2 hb2 e2 z1 k1
            go_upto_region 11 with fail
            rw [← hg2, ← H6.out.1]
            clear hg2
            go_wp2_with fail
            refine sm.mono ?_
            rintro e w5 ⟨rfl, hb5⟩
            have H7 := Lib.hid (below_on hB.out (below_on H6.out.2 hb5))
            clear sm hb5 m0 m1 m2 r0 r1 r2
            go_wp2
            go_roundw
            case rel => exact ⟨k + 1, by omega, by go_num, H7⟩
            case measure => simp [RowKit.intOf]; omega
end Go.Proofs.Ytkddnknjjdenhaa.EdShi
