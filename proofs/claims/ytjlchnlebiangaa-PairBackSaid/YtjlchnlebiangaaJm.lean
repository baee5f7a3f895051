/-
  Package pair: Match.
-/
import Derived.Test.YtjlchnlebiangaaJr
set_option linter.unusedVariables false
set_option linter.unusedSimpArgs false
set_option maxRecDepth 100000
namespace Go.Proofs.Ytjlchnlebiangaa.Pr
open Go Go.RowKit Go.Proofs.Ytjlchnlebiangaa.Vk Go.Proofs.Ytjlchnlebiangaa.Str Go.Proofs.Ytjlchnlebiangaa.Ln Go.Proofs.Ytjlchnlebiangaa.Cl Go.Proofs.Ytjlchnlebiangaa.Mv Go.Proofs.Ytjlchnlebiangaa.Wd Go.Shelf
attribute [local go_sem] Oper.semAt_some

theorem mtR_no {ls : List ByteArray} {l c : Int} (h : ¬ Plc ls l c) : mtR ls l c = R.no := if_neg h
theorem mtR_yes {ls : List ByteArray} {i k : Nat} (h : Plc ls (i : Int) (k : Int)) : mtR ls i k = (match mtc ls i k with | some q => ⟨q.1, q.2, 1, true, -1, true⟩ | none => R.no) := if_pos h

set_option maxHeartbeats 4000000 in
theorem match_any (a : Option Addr) (n c' : Nat) (ls : List ByteArray) (l c : Int) (w : World) (h : Ss w a n c' ls) (hs : ∀ s ∈ ls, s.size ≤ 140737488355328) (hn6 : n ≤ 1000000) (htz : tz ls ≤ 900000) :
    Calls Try.prog 10 #[.slice a n c', .agg #[.int .i64 l, .int .i64 c]] w fun e w' => e = .returned (mtR ls l c).v ∧ Below w.heap.size w w' := by
  have hlen := h.length
  obtain ⟨X, hX⟩ : ∃ X, X = ((w.alloc (.cells #[.int .i64 l, .int .i64 c] 24)).alloc (.cells #[.int .i64 0, .int .i64 0, .int .i64 0, .bool false, .int .i64 0] 31)) := ⟨_, rfl⟩
  have hT : Two w X l c := by rw [hX]; exact Two.new w l c
  have HX := Lib.hid hX
  have h1 := inside_any a n c' ls l c X (SrcV.below h hT.below) hs
  have p0 := hT.pos.c0
  have p1 := hT.pos.c1
  have m0 := hT.mv.c0
  have m1 := hT.mv.c1
  have m2 := hT.mv.c2
  have m3 := hT.mv.c3
  have m4 := hT.mv.c4
  have z := hT.mv.z
  by_cases hp : Plc ls l c
  rotate_left
  · have hr := mtR_no hp
    rw [decide_eq_false hp] at h1
    rw [hr]
    clear hr hX hp h
    go_enter Try.func10, Try.ntmps10
    go_wp2_with fail
    rw [← HX.out]
    refine h1.mono ?_
    rintro e w1 ⟨rfl, hb_w1⟩
    have T1 := hT.on hb_w1
    clear p0 p1 m0 m1 m2 m3 m4 z h1
    have p0 := T1.pos.c0
    have p1 := T1.pos.c1
    have m0 := T1.mv.c0
    have m1 := T1.mv.c1
    have m2 := T1.mv.c2
    have m3 := T1.mv.c3
    have m4 := T1.mv.c4
    have z := T1.mv.z
    go_wp2
    obtain ⟨hg, hb⟩ := T1.ret 0 0 0 0 false
    exact ret_mv (r := R.no) (g := w.heap.size + 1) rfl rfl rfl rfl hg ⟨rfl, hb⟩
  obtain ⟨i, k, rfl, rfl, hi, hk⟩ := hp.nat
  rw [decide_eq_true hp] at h1
  obtain ⟨r, hr⟩ : ∃ r, r = mtR ls i k := ⟨_, rfl⟩
  rw [← hr]
  rw [mtR_yes hp] at hr
  have hbr := fun W (hW : Below w.heap.size w W) => bracket_any a n c' ls i k W (SrcV.below h hW) hs (by omega) hk
  have hpa := fun W (hW : Below w.heap.size w W) (j : Nat) (hj : j < (lineAt ls i).size) (hI : kI (bt (lineAt ls i) j) = true) => partner_any a n c' ls i j W (SrcV.below h hW) hs hn6 htz (by omega) hj hI
  have HBR := Lib.hid hbr
  have HPA := Lib.hid hpa
  clear hbr hpa h hX hp
  go_enter Try.func10, Try.ntmps10
  go_wp2_with fail
  rw [← HX.out]
  refine h1.mono ?_
  rintro e w1 ⟨rfl, hb_w1⟩
  have T1 := hT.on hb_w1
  clear p0 p1 m0 m1 m2 m3 m4 z h1 hT hb_w1 HX
  have p0 := T1.pos.c0
  have p1 := T1.pos.c1
  have m0 := T1.mv.c0
  have m1 := T1.mv.c1
  have m2 := T1.mv.c2
  have m3 := T1.mv.c3
  have m4 := T1.mv.c4
  have z := T1.mv.z
  have hb1 := HBR.out _ T1.below
  cases hf : fbr (lineAt ls i) k with
  | none =>
    have hrn : r = R.no := by rw [hr, mtc, hf]; rfl
    rw [brV, hf] at hb1
    have HRN := Lib.hid hrn
    clear hr hrn hf
    go_wp2_with fail
    refine hb1.mono ?_
    rintro e w2 ⟨rfl, hb_w2⟩
    have T2 := (T1.on hb_w2).on ((Below.refl _ w2).alloc (Nat.le_refl _) (.cells #[.int .i64 0, .int .i64 0] 24))
    clear p0 p1 m0 m1 m2 m3 m4 z hb1 hb_w2
    have p0 := T2.pos.c0
    have p1 := T2.pos.c1
    have m0 := T2.mv.c0
    have m1 := T2.mv.c1
    have m2 := T2.mv.c2
    have m3 := T2.mv.c3
    have m4 := T2.mv.c4
    have z := T2.mv.z
    dsimp only [Option.map, oV, nthU]
    go_wp2
    obtain ⟨hg, hb⟩ := T2.ret 0 0 0 0 false
    exact ret_mv (r := R.no) (g := w.heap.size + 1) rfl rfl rfl rfl hg ⟨by rw [HRN.out], hb⟩
  | some j =>
    obtain ⟨hj, hI⟩ := fbr_some _ k j (Nat.le_refl _) hf
    rw [brV, hf] at hb1
    dsimp only [Option.map, oV, nthU] at hb1
    have hrv : r = (match ptn (i, j) (P ls (bt (lineAt ls i) j)) with | some q => ⟨q.1, q.2, 1, true, -1, true⟩ | none => R.no) := by rw [hr, mtc, hf]; rfl
    clear hr hf
    go_wp2_with fail
    refine hb1.mono ?_
    rintro e w2 ⟨rfl, hb_w2⟩
    have T2 := T1.on hb_w2
    clear p0 p1 m0 m1 m2 m3 m4 z hb1 hb_w2 T1
    go_upto_region 4 with fail
    obtain ⟨x2, hx2⟩ : ∃ x2, x2 = w2.alloc (.cells #[.int .i64 (i : Int), .int .i64 (j : Int)] 24) := ⟨_, rfl⟩
    have hA : Below w2.heap.size w2 x2 := by rw [hx2]; exact (Below.refl _ w2).alloc (Nat.le_refl _) _
    have hG := PosAt.new w2 i j
    rw [← hx2] at hG ⊢
    have T3 := T2.on hA
    have hpb := HPA.out x2 T3.below j hj hI
    have g0 := hG.c0
    have g1 := hG.c1
    clear hx2 hA T2
    cases hpt : ptn (i, j) (P ls (bt (lineAt ls i) j)) with
    | none =>
      rw [hpt] at hpb hrv
      dsimp only [oV, nthU] at hpb
      have HRN := Lib.hid hrv
      clear hrv hpt
      go_wp2_with fail
      refine hpb.mono ?_
      rintro e w4 ⟨rfl, hb_w4⟩
      have T4 := (T3.on hb_w4).on ((Below.refl _ w4).alloc (Nat.le_refl _) (.cells #[.int .i64 0, .int .i64 0] 24))
      clear hpb hb_w4 g0 g1 hG T3
      have p0 := T4.pos.c0
      have p1 := T4.pos.c1
      have m0 := T4.mv.c0
      have m1 := T4.mv.c1
      have m2 := T4.mv.c2
      have m3 := T4.mv.c3
      have m4 := T4.mv.c4
      have z := T4.mv.z
      go_wp2
      obtain ⟨hg, hb⟩ := T4.ret 0 0 0 0 false
      exact ret_mv (r := R.no) (g := w.heap.size + 1) rfl rfl rfl rfl hg ⟨by rw [HRN.out], hb⟩
    | some q =>
      rw [hpt] at hpb hrv
      dsimp only [oV, nthU] at hpb
      have HRN := Lib.hid hrv
      clear hrv hpt
      go_wp2_with fail
      refine hpb.mono ?_
      rintro e w4 ⟨rfl, hb_w4⟩
      have T4 := (T3.on hb_w4).on ((Below.refl _ w4).alloc (Nat.le_refl _) (.cells #[.int .i64 q.1, .int .i64 q.2] 24))
      clear hpb hb_w4 g0 g1 hG T3
      have p0 := T4.pos.c0
      have p1 := T4.pos.c1
      have m0 := T4.mv.c0
      have m1 := T4.mv.c1
      have m2 := T4.mv.c2
      have m3 := T4.mv.c3
      have m4 := T4.mv.c4
      have z := T4.mv.z
      go_wp2
      obtain ⟨hg, hb⟩ := T4.ret q.1 q.2 1 (-1) true
      exact ret_mv (r := ⟨q.1, q.2, 1, true, -1, true⟩) (g := w.heap.size + 1) rfl rfl rfl rfl hg ⟨by rw [HRN.out], hb⟩
end Go.Proofs.Ytjlchnlebiangaa.Pr
