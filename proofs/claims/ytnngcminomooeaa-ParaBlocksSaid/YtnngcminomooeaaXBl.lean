/-
  The law ParaBlocks, walked.
-/
import Derived.Test.YtnngcminomooeaaXKn
set_option linter.unusedVariables false
set_option linter.unusedSimpArgs false
set_option maxRecDepth 100000
namespace Go.Proofs.Ytnngcminomooeaa.XBl
open Go Go.RowKit Go.Proofs.Ytnngcminomooeaa.Vk Go.Proofs.Ytnngcminomooeaa.Str Go.Proofs.Ytnngcminomooeaa.Ln Go.Proofs.Ytnngcminomooeaa.Cl Go.Proofs.Ytnngcminomooeaa.Mv Go.Proofs.Ytnngcminomooeaa.Wo Go.Proofs.Ytnngcminomooeaa.Po
attribute [local go_sem] Oper.semAt_some
set_option maxHeartbeats 8000000

theorem walk (a : Option Addr) (n c' : Nat) (ls : List ByteArray) (r : Int) (w : World) (h : Ss w a n c' ls) (hs : ∀ s ∈ ls, s.size ≤ 140737488355328) (hr0 : (Lit.int .u8 r).wf = true) :
    Calls Try.prog 3 #[.slice a n c', .int .u8 r] w fun e w' => e = .returned (.bool true) ∧ Below w.heap.size w w' := by
  have hk := known_any w
  have r2 : 0 ≤ r ∧ r ≤ 255 := by simpa [Lit.wf, IntKind.min, IntKind.max, IntKind.signed, IntKind.bits] using hr0
  obtain ⟨G, hG, hG5⟩ : ∃ G : Nat, r % 5 = (G : Int) ∧ G < 5 := ⟨(r % 5).toNat, by omega, by omega⟩
  have hGt : r.tmod 5 = (G : Int) := by rw [Int.tmod_eq_emod_of_nonneg r2.1]; exact hG
  have hwG : IntKind.i64.wrap (G : Int) = (G : Int) := by rw [IntKind.wrap_i64]; omega
  have hwG8 : IntKind.u8.wrap (G : Int) = (G : Int) := by simp [IntKind.wrap, IntKind.bits, IntKind.signed]; omega
  obtain ⟨K, hK1, hK2⟩ : ∃ K, G + 1 ≤ K ∧ K ≤ G + 1 := ⟨G + 1, by omega, by omega⟩
  have hwK : IntKind.i64.wrap ((G : Int) + 1) = (K : Int) := by rw [IntKind.wrap_i64]; omega
  go_enter Try.func3, Try.ntmps3
  go_wp2_with fail
  refine hk.mono ?_
  rintro e w1 ⟨rfl, hb1⟩
  have HB1 := Lib.hid hb1
  have hS : Ss w1 a n c' ls := SrcV.below h hb1
  have htx := light_any a n c' ls w1 hS hs
  clear hk hb1 h
  go_wp2_with fail
  refine htx.mono ?_
  rintro e w' ⟨qq, rfl, rfl, hq⟩
  clear htx
  cases qq
  · clear hq
    go_wp2
    go_ret
    exact ⟨rfl, HB1.out⟩
  obtain ⟨hn40, hz, _⟩ := hq rfl
  have hlen := hS.length
  have HS := Lib.hid hS
  have hrg := bls_rg ls
  have lS : (bls ls).length ≤ 40 := by have := bls_len ls; omega
  have HG := Lib.hid hrg
  clear hq hS hrg
  have D := Lib.hid (Below.refl w1.heap.size w1)
  have hst := blocks_tells a n c' ls w1 HS.out (by omega)
  go_wp2_with fail
  refine hst.mono ?_
  rintro e v2 ⟨vA, rfl, ht, hb⟩
  have D := Lib.hid (below_on D.out hb)
  clear hb hst
  have hhe := heard_any vA 100 v2 ht (by omega) (by omega) (by omega)
  clear ht
  rw [show ((100 : Nat) : Int) = 100 from rfl, List.take_of_length_le (show (bls ls).length ≤ 100 by omega)] at hhe
  go_wp2_with fail
  refine hhe.mono ?_
  rintro e v3 ⟨bA, NA, cA, rfl, hp, hb⟩
  have D := Lib.hid (below_on D.out hb)
  clear hb hhe
  have PA := Lib.hid hp
  have TA := Lib.hid (Below.refl v3.heap.size v3)
  clear hp
  have hdo := blocks15_any a n c' ls v3 (SrcV.below HS.out D.out) (by omega)
  go_wp2_with fail
  refine hdo.mono ?_
  rintro e v4 ⟨bW, NW, cW, rfl, hO⟩
  have hp := hO.rs
  have hb := hO.bel
  have D := Lib.hid (below_on D.out hb)
  have TA := Lib.hid (below_on TA.out hb)
  clear hb hdo hO
  have PW := Lib.hid hp
  have TW := Lib.hid (Below.refl v4.heap.size v4)
  clear hp
  have hst := blocks_tells a n c' ls v4 (SrcV.below HS.out D.out) (by omega)
  go_wp2_with fail
  refine hst.mono ?_
  rintro e v5 ⟨vC, rfl, ht, hb⟩
  have D := Lib.hid (below_on D.out hb)
  have TA := Lib.hid (below_on TA.out hb)
  have TW := Lib.hid (below_on TW.out hb)
  clear hb hst
  have hhe := heard_any vC K v5 ht (by omega) (by omega) (by omega)
  clear ht
  go_wp2_with fail
  refine hhe.mono ?_
  rintro e v6 ⟨bC, NC, cC, rfl, hp, hb⟩
  have D := Lib.hid (below_on D.out hb)
  have TA := Lib.hid (below_on TA.out hb)
  have TW := Lib.hid (below_on TW.out hb)
  clear hb hhe
  have PC := Lib.hid hp
  clear hp
  obtain ⟨L, hL⟩ : ∃ L, L = bls ls := ⟨_, rfl⟩
  rw [← hL] at PA PW PC lS HG
  have HLL := Lib.hid hL
  clear hL
  have PA6 := Lib.hid (PA.out.below TA.out)
  have PW6 := Lib.hid (PW.out.below TW.out)
  have hlA := PA.out.length
  have hlW := PW.out.length
  have hlC := PC.out.length
  rw [List.length_take] at hlC
  obtain rfl : NW = NA := by omega
  have hNA : NW ≤ 40 := by omega
  have i1 : min (K : Int) (NW : Int) = (NC : Int) := by omega
  have i2 : (if (NW : Int) < (K : Int) then (NW : Int) else (K : Int)) = (NC : Int) := by omega
  have i3 : (if NW < K then (NW : Int) else (K : Int)) = (NC : Int) := by split <;> omega
  have HLA := Lib.hid hlA
  have HLC := Lib.hid hlC
  have HKK := Lib.hid (And.intro hK1 hK2)
  clear hlA hlW hlC lS hK1 hK2 PA PW
  go_wp2
  clear i1 i2 i3
  go_loopw [11, 12] (fun x i wr => ∃ j A : Nat, x = .int .i64 A ∧ i = .int .i64 j ∧ Hid (j ≤ NW ∧ (∀ h : j < L.length, L[j].1 = A) ∧ (j = NW → A = n) ∧ Below v6.heap.size v6 wr)) (fun _ i _ => NW - (RowKit.intOf i).toNat)
  case atStart =>
    refine ⟨0, 0, rfl, rfl, Nat.zero_le _, fun h => HG.out.zero h, fun h => ?_, Below.refl _ _⟩
    have := HG.out.empty (List.eq_nil_of_length_eq_zero (by have := HLA.out; omega))
    omega
  case round =>
    obtain ⟨j, A, rfl, rfl, hR⟩ := hrel
    have hbr := hR.out.2.2.2
    by_cases hjn : j < NW
    · have hjl : j < L.length := by have := HLA.out; omega
      obtain ⟨g, o, rfl, x0, x1, hnc⟩ := (PA6.out.below hbr).read j hjl
      obtain ⟨g', o', rfl, z0, z1, hnc'⟩ := (PW6.out.below hbr).read j hjl
      have hA := hR.out.2.1 hjl
      obtain ⟨B, hB⟩ : ∃ B, B = (L[j]'hjl).2 := ⟨_, rfl⟩
      rw [hA] at x0 z0
      rw [← hB] at x1 z1
      have HBB := Lib.hid hB
      have HAA := Lib.hid hA
      have e0 : decide (j < NW) = true := decide_eq_true hjn
      have e1 : (j : Int) < (NW : Int) := by omega
      obtain ⟨M, hM⟩ : ∃ M, M = j + 1 := ⟨_, rfl⟩
      have hwM : IntKind.i64.wrap ((j : Int) + 1) = (M : Int) := by rw [IntKind.wrap_i64]; omega
      have HM := Lib.hid (And.intro hM hjn)
      have he := fun W => ne_run A B W
      have f0 := fun z : Gr wr => z.cell x0
      have f1 := fun z : Gr wr => z.cell x1
      have f2 := fun z : Gr wr => z.cell z0
      have f3 := fun z : Gr wr => z.cell z1
      have HX1 := Lib.hid x1
      clear hB hA hM hnc hnc' x0 x1 z0 z1
      by_cases hjc : j < NC
      · have hcl : j < (L.take K).length := by have := HLC.out; rw [List.length_take]; omega
        obtain ⟨g2, o2, rfl, y0, y1, hnc2⟩ := (PC.out.below hbr).read j hcl
        have eC : (L.take K)[j]'hcl = L[j]'hjl := List.getElem_take
        rw [eC, HAA.out] at y0
        rw [eC, ← HBB.out] at y1
        have f4 := fun z : Gr wr => z.cell y0
        have f5 := fun z : Gr wr => z.cell y1
        have e2 : decide (j < NC) = true := decide_eq_true hjc
        have e3 : (j : Int) < (NC : Int) := by omega
        clear y0 y1 hnc2 eC hcl hjc
        go_upto_region 15 with fail
        refine wp_region_grow (by kernel_rfl) (by kernel_rfl) ?_
        repeat (go_big_quiet_step (fail))
        refine wpQuiet_nil ?_
        rintro V ⟨⟨_, hbV⟩, rfl⟩
        have x1 := cell_later hbV HX1.out
        have HB := Lib.hid (below_on hbr hbV)
        clear f0 f1 f2 f3 f4 f5 he hbV hbr
        go_wp2
        go_roundw
        case rel =>
          have hM := HM.out.1
          subst hM
          refine ⟨j + 1, B, rfl, rfl, by have := HM.out; omega, fun h => ?_, fun h => ?_, HB.out⟩
          · rw [HG.out.next j h, HBB.out]
          · rw [HBB.out, ← hlen]; exact HG.out.last j (by have := HLA.out; omega)
        case measure => have := HM.out; simp [RowKit.intOf]; omega
      · have e2 : decide (j < NC) = false := decide_eq_false hjc
        have e3 : decide ((j : Int) < (NC : Int)) = false := decide_eq_false (by omega)
        clear hjc
        go_upto_region 15 with fail
        refine wp_region_grow (by kernel_rfl) (by kernel_rfl) ?_
        repeat (go_big_quiet_step (fail))
        refine wpQuiet_nil ?_
        rintro V ⟨⟨_, hbV⟩, rfl⟩
        have x1 := cell_later hbV HX1.out
        have HB := Lib.hid (below_on hbr hbV)
        clear f0 f1 f2 f3 he hbV hbr
        go_wp2
        go_roundw
        case rel =>
          have hM := HM.out.1
          subst hM
          refine ⟨j + 1, B, rfl, rfl, by have := HM.out; omega, fun h => ?_, fun h => ?_, HB.out⟩
          · rw [HG.out.next j h, HBB.out]
          · rw [HBB.out, ← hlen]; exact HG.out.last j (by have := HLA.out; omega)
        case measure => have := HM.out; simp [RowKit.intOf]; omega
    · have hj : j = NW := by have := hR.out.1; omega
      obtain rfl : A = n := hR.out.2.2.1 hj
      have e0 : decide (j < NW) = false := decide_eq_false hjn
      have e1 : decide ((j : Int) < (NW : Int)) = false := decide_eq_false (by omega)
      have HB := Lib.hid hbr
      clear hj hR hbr
      go_wp2
      go_ret
      exact ⟨rfl, below_on HB1.out (below_on D.out HB.out)⟩
end Go.Proofs.Ytnngcminomooeaa.XBl
