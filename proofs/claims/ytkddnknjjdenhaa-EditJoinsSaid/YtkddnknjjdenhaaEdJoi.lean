/-
  The law EditJoins, walked.
-/
import Derived.Test.YtkddnknjjdenhaaEdn
set_option linter.unusedVariables false
set_option linter.unusedSimpArgs false
set_option maxRecDepth 100000
namespace Go.Proofs.Ytkddnknjjdenhaa.EdJoi
open Go Go.RowKit Go.Proofs.Ytkddnknjjdenhaa.Vk Go.Proofs.Ytkddnknjjdenhaa.Str Go.Proofs.Ytkddnknjjdenhaa.Ln Go.Proofs.Ytkddnknjjdenhaa.Cl Go.Proofs.Ytkddnknjjdenhaa.Mv Go.Proofs.Ytkddnknjjdenhaa.Ed
attribute [local go_sem] Oper.semAt_some

theorem place_any (D : Int) (N F : Nat) (w : World) (h0 : 0 < N) (hN : N ≤ 1000000) (hF : (F : Int) = D % (N : Int)) :
    Calls Try.prog 18 #[.int .i64 D, .int .i64 N] w fun e w' => e = .returned (.int .i64 F) ∧ w = w' := by
  have h1 := Int.tmod_lt_of_pos D (b := (N : Int)) (by omega)
  have h2 := Int.lt_tmod_of_pos D (b := (N : Int)) (by omega)
  have h3 := Int.emod_nonneg D (b := (N : Int)) (by omega)
  have h4 := Int.emod_lt_of_pos D (b := (N : Int)) (by omega)
  have h5 := Int.tmod_eq_emod (a := D) (b := (N : Int))
  have h6 : D.tmod (N : Int) = (F : Int) ∨ D.tmod (N : Int) = (F : Int) - (N : Int) := by
    split at h5
    · exact .inl (by omega)
    · exact .inr (by omega)
  have hz : ((N : Int) == 0) = false := by rw [beq_eq_false_iff_ne]; omega
  have hz2 : ¬ N = 0 := by omega
  rw [← hF] at h3 h4
  obtain ⟨T, hT⟩ : ∃ T, D.tmod (N : Int) = T := ⟨_, rfl⟩
  rw [hT] at h1 h2 h6
  have hwT : IntKind.i64.wrap T = T := by rw [IntKind.wrap_i64]; omega
  clear hF h5
  by_cases hn : T < 0
  · have hw : IntKind.i64.wrap (T + (N : Int)) = (F : Int) := by rw [IntKind.wrap_i64]; omega
    have d0 : decide (T < 0) = true := decide_eq_true hn
    clear h1 h2 h3 h4 h6 h0 hN hn
    go_enter Try.func18, Try.ntmps18
    go_wp2
    go_ret
    exact ⟨rfl, rfl⟩
  · obtain rfl : T = (F : Int) := by omega
    have d0 : decide ((F : Int) < 0) = false := decide_eq_false (by omega)
    clear h1 h2 h3 h4 h6 h0 hN hn
    go_enter Try.func18, Try.ntmps18
    go_wp2
    go_ret
    exact ⟨rfl, rfl⟩
theorem i64_of {x : Int} (h : (Lit.int .i64 x).wf = true) : -9223372036854775808 ≤ x ∧ x ≤ 9223372036854775807 := by simpa [Lit.wf, IntKind.min, IntKind.max, IntKind.signed, IntKind.bits] using h
def E2 (l : Int) (F k : Nat) : Int := if k = 0 then l else F
def D3 (m d : Int) (j : Nat) : Int := if j = 0 then m else if j = 1 then d else 2
theorem cell2 {w : World} {g : Nat} {t : TypeId} {l : Int} {F : Nat} (h : w.heap[g]? = some (.cells #[.int .i64 l, .int .i64 F] t (0, 0))) (k : Nat) (hk : k < 2) : w.cell? ⟨g, k, none⟩ = some (.int .i64 (E2 l F k)) := by
  rw [cell_of_row w g k _ _ _ h]
  match k, hk with
  | 0, _ => rfl
  | 1, _ => rfl
theorem cell3 {w : World} {g : Nat} {t : TypeId} {m d : Int} (h : w.heap[g]? = some (.cells #[.int .i64 m, .int .i64 d, .int .i64 2] t (0, 0))) (k : Nat) (hk : k < 3) : w.cell? ⟨g, k, none⟩ = some (.int .i64 (D3 m d k)) := by
  rw [cell_of_row w g k _ _ _ h]
  match k, hk with
  | 0, _ => rfl
  | 1, _ => rfl
  | 2, _ => rfl

set_option maxHeartbeats 4000000 in
theorem walk (a : Option Addr) (n c' : Nat) (ls : List ByteArray) (l m : Int) (w : World) (h : Ss w a n c' ls) (hs : ∀ s ∈ ls, s.size ≤ 140737488355328) (hl0 : (Lit.int .i64 l).wf = true) (hm0 : (Lit.int .i64 m).wf = true) :
    Calls Try.prog 4 #[.slice a n c', .int .i64 l, .int .i64 m] w fun e w' => e = .returned (.bool true) ∧ Below w.heap.size w w' := by
  have hk := known_any w
  have hl := i64_of hl0
  have hm := i64_of hm0
  have HI := Lib.hid (And.intro h (And.intro hs (And.intro hl hm)))
  clear h hs hl0 hm0 hl hm
  go_enter Try.func4, Try.ntmps4
  go_wp2_with fail
  refine hk.mono ?_
  rintro e w1 ⟨rfl, hb1⟩
  clear hk
  have ht := text_any a n c' ls w1 (SrcV.below HI.out.1 hb1) HI.out.2.1
  have HB1 := Lib.hid hb1
  clear hb1
  go_wp2_with fail
  refine ht.mono ?_
  rintro e w1' ⟨q, rfl, rfl, hq⟩
  clear ht
  have HQ := Lib.hid hq
  clear hq
  cases q with
  | false =>
    go_wp2
    go_ret
    exact ⟨rfl, HB1.out⟩
  | true =>
    obtain ⟨h0, h40, htz, _⟩ := HQ.out rfl
    obtain ⟨F, hF⟩ : ∃ F : Nat, (F : Int) = l % (n : Int) := ⟨(l % (n : Int)).toNat, by have := Int.emod_nonneg l (b := (n : Int)) (by omega); omega⟩
    have hFn : F < n := by have := Int.emod_lt_of_pos l (b := (n : Int)) (by omega); omega
    have hpl := place_any l n F w1 h0 (by omega) hF
    obtain ⟨w2, hw2⟩ : ∃ w2, w2 = w1.alloc (.cells #[.int .i64 l, .int .i64 F] 3) := ⟨_, rfl⟩
    obtain ⟨gA, hgA⟩ : ∃ gA, gA = w1.heap.size := ⟨_, rfl⟩
    have hr2 : w2.heap[gA]? = some (.cells #[.int .i64 l, .int .i64 F] 3 (0, 0)) := by rw [hw2, hgA]; exact heap_alloc_new w1 _
    have hb2 : Below w1.heap.size w1 w2 := by rw [hw2]; exact one_below _ _
    have hgl : gA < w2.heap.size := (Array.getElem?_eq_some_iff.1 hr2).1
    have H2 := Lib.hid (And.intro hw2 (And.intro hgA (And.intro hr2 (And.intro (below_on HB1.out hb2) (And.intro h40 (And.intro htz hFn))))))
    clear hF hw2 hr2 hb2 HQ hgA h0 h40 htz hFn
    go_wp2_with (first | (refine hpl.mono ?_; rintro e w' ⟨rfl, rfl⟩; clear hpl) | fail)
    rw [← H2.out.2.1, ← H2.out.1]
    go_loopw [29] (fun i wr => ∃ k : Nat, k ≤ 2 ∧ i = .int .i64 k ∧ Hid (Below w2.heap.size w2 wr)) (fun i _ => 2 - (RowKit.intOf i).toNat)
    case atStart => exact ⟨0, by omega, rfl, Below.refl _ _⟩
    case round =>
      obtain ⟨k, hk, rfl, hB⟩ := hrel
      by_cases hk2 : k < 2
      rotate_left
      · obtain rfl : k = 2 := by omega
        go_wp2
        go_ret
        exact ⟨rfl, below_on H2.out.2.2.2.1 hB.out⟩
      have hcl := cell2 ((hB.out.block gA hgl).trans H2.out.2.2.1) k hk2
      obtain ⟨L, hL⟩ : ∃ L, L = E2 l F k := ⟨_, rfl⟩
      have hLb : L ≤ 9223372036854775807 := by
        rw [hL]
        unfold E2
        have := HI.out.2.2.1
        have := H2.out.2.2.2.2.2.2
        have := H2.out.2.2.2.2.1
        split <;> omega
      rw [← hL] at hcl
      obtain ⟨d, hd⟩ : ∃ d, d = m.tmod 6 := ⟨_, rfl⟩
      have hw6 : m.tmod 6 = d := hd.symm
      obtain ⟨w3, hw3⟩ : ∃ w3, w3 = wr.alloc (.cells #[.int .i64 m, .int .i64 d, .int .i64 2] 3) := ⟨_, rfl⟩
      obtain ⟨gB, hgB⟩ : ∃ gB, gB = wr.heap.size := ⟨_, rfl⟩
      have hr3 : w3.heap[gB]? = some (.cells #[.int .i64 m, .int .i64 d, .int .i64 2] 3 (0, 0)) := by rw [hw3, hgB]; exact heap_alloc_new wr _
      have hb3 : Below wr.heap.size wr w3 := by rw [hw3]; exact one_below _ _
      have hgl3 : gB < w3.heap.size := (Array.getElem?_eq_some_iff.1 hr3).1
      have H3 := Lib.hid (And.intro hw3 (And.intro hgB (And.intro hr3 (And.intro (below_on hB.out hb3) (And.intro hLb hd)))))
      have hkl : (k : Int) < 2 := by omega
      have hkw : IntKind.i64.wrap ((k : Int) + 1) = ((k + 1 : Nat) : Int) := by rw [IntKind.wrap_i64]; omega
      clear hd hw3 hr3 hb3 hgB hLb hL hB
      go_upto_region 9 with fail
      rw [← H3.out.2.1, ← H3.out.1]
      clear hcl
      go_loopw [38] (fun i wr => ∃ j : Nat, j ≤ 3 ∧ i = .int .i64 j ∧ Hid (Below w3.heap.size w3 wr)) (fun i _ => 3 - (RowKit.intOf i).toNat)
      case atStart => exact ⟨0, by omega, rfl, Below.refl _ _⟩
      case round =>
        obtain ⟨j, hj, rfl, hC⟩ := hrel
        by_cases hj3 : j < 3
        rotate_left
        · obtain rfl : j = 3 := by omega
          go_wp2
          go_roundw
          case rel => exact ⟨k + 1, by omega, by go_num, below_on H3.out.2.2.2.1 hC.out⟩
          case measure => simp [RowKit.intOf]; omega
        have hcl := cell3 ((hC.out.block gB hgl3).trans H3.out.2.2.1) j hj3
        obtain ⟨M, hM⟩ : ∃ M, M = D3 m d j := ⟨_, rfl⟩
        rw [← hM] at hcl
        have hjl : (j : Int) < 3 := by omega
        have hjw : IntKind.i64.wrap ((j : Int) + 1) = ((j + 1 : Nat) : Int) := by rw [IntKind.wrap_i64]; omega
        have hb0 := below_on H2.out.2.2.2.1 (below_on H3.out.2.2.2.1 hC.out)
        have hss := SrcV.below HI.out.1 hb0
        obtain ⟨⟨rc, ri, rb⟩, hR⟩ : ∃ R, R = jan ls L M := ⟨_, rfl⟩
        have hn6 : n ≤ 1000000 := by have := H2.out.2.2.2.2.1; omega
        have htz6 : tz ls ≤ 1000000 := by have := H2.out.2.2.2.2.2.1; omega
        have c1 := join_any a n c' ls L M wr hss hn6 htz6 H3.out.2.2.2.2.1
        rw [← hR] at c1
        have c2 := fun W (hW : Below wr.heap.size wr W) => join19_any a n c' ls L M W (SrcV.below hss hW) hn6 htz6 H3.out.2.2.2.2.1
        rw [← hR] at c2
        clear hM hR hss hb0 hn6 htz6
        go_wp2_with fail
        clear hcl
        refine c1.mono ?_
        rintro e w1 ⟨⟨f1, ⟨oa1, on1, oc1⟩, na1, nn1, nc1⟩, rfl, hc1, hb1⟩
        simp only [cv, sv]
        obtain ⟨V1, hV1⟩ : ∃ V1, V1 = w1.alloc (.cells #[.int .i64 f1, .slice oa1 on1 oc1, .slice na1 nn1 nc1] 31) := ⟨_, rfl⟩
        obtain ⟨g1, hg1⟩ : ∃ g1, g1 = w1.heap.size := ⟨_, rfl⟩
        have hbV1 : Below w1.heap.size w1 V1 := by rw [hV1]; exact one_below _ _
        have a1 : ChAt V1 g1 (f1, (oa1, on1, oc1), (na1, nn1, nc1)) := by rw [hV1, hg1]; exact ChAt.new w1 (f1, (oa1, on1, oc1), (na1, nn1, nc1))
        have bb1 := below_on hb1 hbV1
        have cc1 := hc1.below hbV1
        have e2 := c2 V1 bb1
        have H5 := Lib.hid (And.intro hV1 (And.intro a1 (And.intro cc1 bb1)))
        clear hV1 hbV1 a1 bb1 cc1 hc1 hb1 c1 c2
        go_upto_region 12 with fail
        rw [← hg1, ← H5.out.1]
        clear hg1
        go_wp2_with fail
        refine e2.mono ?_
        rintro e w2 ⟨⟨f2, ⟨oa2, on2, oc2⟩, na2, nn2, nc2⟩, rfl, hc2, hb2⟩
        simp only [cv, sv]
        obtain ⟨V2, hV2⟩ : ∃ V2, V2 = w2.alloc (.cells #[.int .i64 f2, .slice oa2 on2 oc2, .slice na2 nn2 nc2] 31) := ⟨_, rfl⟩
        obtain ⟨g2, hg2⟩ : ∃ g2, g2 = w2.heap.size := ⟨_, rfl⟩
        have hbV2 : Below w2.heap.size w2 V2 := by rw [hV2]; exact one_below _ _
        have a2 : ChAt V2 g2 (f2, (oa2, on2, oc2), (na2, nn2, nc2)) := by rw [hV2, hg2]; exact ChAt.new w2 (f2, (oa2, on2, oc2), (na2, nn2, nc2))
        have bb2 := below_on hb2 hbV2
        have cc2 := hc2.below hbV2
        have x1 := H5.out.2.1.below bb2 H5.out.2.1.lt
        have k1 := H5.out.2.2.1.below bb2
        have sm := same_any f1 oa1 on1 oc1 na1 nn1 nc1 f2 oa2 on2 oc2 na2 nn2 nc2 rc rc rb rb V2 k1 cc2
        rw [decide_eq_true rfl, decide_eq_true rfl] at sm
        have m0 := x1.c0
        have m1 : V2.cell? ⟨g1, 1, none⟩ = some (.slice oa1 on1 oc1) := x1.c1
        have m2 : V2.cell? ⟨g1, 2, none⟩ = some (.slice na1 nn1 nc1) := x1.c2
        have r0 := a2.c0
        have r1 : V2.cell? ⟨g2, 1, none⟩ = some (.slice oa2 on2 oc2) := a2.c1
        have r2 : V2.cell? ⟨g2, 2, none⟩ = some (.slice na2 nn2 nc2) := a2.c2
        have H6 := Lib.hid (And.intro hV2 (below_on H5.out.2.2.2 bb2))
        clear hV2 hbV2 a2 bb2 cc2 hc2 hb2 e2 x1 k1
        go_upto_region 13 with fail
        rw [← hg2, ← H6.out.1]
        clear hg2
        go_wp2_with fail
        refine sm.mono ?_
        rintro e w5 ⟨rfl, hb5⟩
        have H7 := Lib.hid (below_on hC.out (below_on H6.out.2 hb5))
        clear sm hb5 m0 m1 m2 r0 r1 r2
        go_wp2
        go_roundw
        case rel => exact ⟨j + 1, by omega, by go_num, H7⟩
        case measure => simp [RowKit.intOf]; omega
end Go.Proofs.Ytkddnknjjdenhaa.EdJoi
