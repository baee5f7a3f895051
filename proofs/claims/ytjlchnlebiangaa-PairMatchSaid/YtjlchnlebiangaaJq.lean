/-
  The document's Match.
-/
import Derived.Test.YtjlchnlebiangaaJo
import Derived.Test.YtjlchnlebiangaaJm
set_option linter.unusedVariables false
set_option linter.unusedSimpArgs false
set_option maxRecDepth 100000
namespace Go.Proofs.Ytjlchnlebiangaa.Pr
open Go Go.RowKit Go.Proofs.Ytjlchnlebiangaa.Vk Go.Proofs.Ytjlchnlebiangaa.Str Go.Proofs.Ytjlchnlebiangaa.Ln Go.Proofs.Ytjlchnlebiangaa.Cl Go.Proofs.Ytjlchnlebiangaa.Mv Go.Proofs.Ytjlchnlebiangaa.Wd Go.Shelf
attribute [local go_sem] Oper.semAt_some

/-- What Match answers, sought from a column on. -/
def mtz (ls : List ByteArray) (i j : Nat) : R := match (fbr (lineAt ls i) j).bind fun j => ptn (i, j) (P ls (bt (lineAt ls i) j)) with | some q => ⟨q.1, q.2, 1, true, -1, true⟩ | none => R.no

set_option maxHeartbeats 4000000 in
theorem match5_any (a : Option Addr) (n c' : Nat) (ls : List ByteArray) (l c : Int) (w : World) (h : Ss w a n c' ls) (hs : ∀ s ∈ ls, s.size ≤ 140737488355328) (hn6 : n ≤ 1000000) (htz : tz ls ≤ 900000) :
    Calls Try.prog 11 #[.slice a n c', .agg #[.int .i64 l, .int .i64 c]] w fun e w' => e = .returned (mtR ls l c).v ∧ Below w.heap.size w w' := by
  have hlen := h.length
  obtain ⟨X, hX⟩ : ∃ X, X = ((w.alloc (.cells #[.int .i64 l, .int .i64 c] 24)).alloc (.cells #[.int .i64 0, .int .i64 0, .int .i64 0, .bool false, .int .i64 0] 31)) := ⟨_, rfl⟩
  have hT : Two w X l c := by rw [hX]; exact Two.new w l c
  have HX := Lib.hid hX
  have h1 := may_any a n c' ls l c 1 X (SrcV.below h hT.below)
  have hno := none_any'
  have p0 := hT.pos.c0
  have p1 := hT.pos.c1
  have m0 := hT.mv.c0
  have m1 := hT.mv.c1
  have m2 := hT.mv.c2
  have m3 := hT.mv.c3
  have m4 := hT.mv.c4
  have z := hT.mv.z
  by_cases hp : Plc ls l c
  rotate_left
  · have hr := mtR_no hp
    rw [decide_eq_false (fun hh => hp hh.1)] at h1
    rw [hr]
    clear hr hX hp h
    go_enter Try.func11, Try.ntmps11
    go_wp2_with fail
    rw [← HX.out]
    refine h1.mono ?_
    rintro e w1 ⟨rfl, hb_w1⟩
    have T1 := hT.on hb_w1
    clear p0 p1 m0 m1 m2 m3 m4 z h1
    have p0 := T1.pos.c0
    have p1 := T1.pos.c1
    have m0 := T1.mv.c0
    have m1 := T1.mv.c1
    have m2 := T1.mv.c2
    have m3 := T1.mv.c3
    have m4 := T1.mv.c4
    have z := T1.mv.z
    go_wp2_with fail
    refine (hno _).mono ?_
    rintro e w2 ⟨rfl, hb_w2⟩
    have T1' := T1.on hb_w2
    clear p0 p1 m0 m1 m2 m3 m4 z hb_w2
    have p0 := T1'.pos.c0
    have p1 := T1'.pos.c1
    have m0 := T1'.mv.c0
    have m1 := T1'.mv.c1
    have m2 := T1'.mv.c2
    have m3 := T1'.mv.c3
    have m4 := T1'.mv.c4
    have z := T1'.mv.z
    go_wp2
    obtain ⟨hg, hb⟩ := T1'.ret 0 0 0 0 false
    exact ret_mv (r := R.no) (g := w.heap.size + 1) rfl rfl rfl rfl hg ⟨rfl, hb⟩
  obtain ⟨i, k, rfl, rfl, hi, hk⟩ := hp.nat
  rw [decide_eq_true ⟨hp, Int.le_refl 1⟩] at h1
  obtain ⟨r, hr⟩ : ∃ r, r = mtR ls i k := ⟨_, rfl⟩
  rw [← hr]
  rw [mtR_yes hp] at hr
  have HR := Lib.hid (show r = mtz ls i k from hr)
  obtain ⟨st, hst⟩ : ∃ st, st = lineAt ls i := ⟨_, rfl⟩
  have hz : st.size ≤ 140737488355328 := by rw [hst, lineAt_get (by omega)]; exact hs _ (List.getElem_mem _)
  have hpa := fun W (hW : Below w.heap.size w W) (j : Nat) (hj : j < (lineAt ls i).size) (hI : kI (bt (lineAt ls i) j) = true) => other_any a n c' ls i j W (SrcV.below h hW) hs hn6 htz (by omega) hj hI
  have HPA := Lib.hid hpa
  obtain ⟨ab, ao, rfl, hcx, hnc, _⟩ := h.read i (by omega)
  rw [← lineAt_get (ls := ls) (k := i) (by omega), ← hst] at hcx
  have HC := Lib.hid hcx
  rw [← hst] at hk
  have HST := Lib.hid hst
  clear hpa h hX hp hr hcx hst
  go_enter Try.func11, Try.ntmps11
  go_wp2_with fail
  rw [← HX.out]
  refine h1.mono ?_
  rintro e w1 ⟨rfl, hb_w1⟩
  have T1 := hT.on hb_w1
  clear p0 p1 m0 m1 m2 m3 m4 z h1 hT hb_w1 HX
  have p0 := T1.pos.c0
  have p1 := T1.pos.c1
  have m0 := T1.mv.c0
  have m1 := T1.mv.c1
  have m2 := T1.mv.c2
  have m3 := T1.mv.c3
  have m4 := T1.mv.c4
  have z := T1.mv.z
  have c2 := cell_later T1.below HC.out
  have HT1 := Lib.hid T1
  clear T1
  go_wp2
  clear p0 p1 m0 m1 m2 m3 m4 z c2
  go_loopw [7] (fun u wr => ∃ j : Nat, j ≤ st.size ∧ u = .int .i64 j ∧ Hid (Two w wr i k ∧ r = mtz ls i j)) (fun u _ => st.size - (RowKit.intOf u).toNat)
  case atStart => exact ⟨k, hk, rfl, HT1.out, HR.out⟩
  case round =>
    clear HT1 HR
    obtain ⟨j, hj, rfl, hQ⟩ := hrel
    obtain ⟨hT, hV⟩ := hQ.out
    have HTT := Lib.hid hT
    have p0 := hT.pos.c0
    have p1 := hT.pos.c1
    have m0 := hT.mv.c0
    have m1 := hT.mv.c1
    have m2 := hT.mv.c2
    have m3 := hT.mv.c3
    have m4 := hT.mv.c4
    have z := hT.mv.z
    by_cases hjs : j < st.size
    · obtain ⟨y, hy⟩ : ∃ y, y = bt st j := ⟨_, rfl⟩
      obtain ⟨o, ho⟩ : ∃ o, o = kO y := ⟨_, rfl⟩
      obtain ⟨s, hs5⟩ : ∃ s, s = kS y := ⟨_, rfl⟩
      obtain ⟨op, hop⟩ : ∃ op, op = kB y := ⟨_, rfl⟩
      obtain ⟨q, hq⟩ : ∃ q, q = kI y := ⟨_, rfl⟩
      have hkd : ∀ W, Calls Try.prog 14 #[.int .u8 ((st[j]'hjs).toNat)] W fun e w' => e = .returned (.tuple #[.int .u8 o, .int .u8 s, .bool op, .bool q]) ∧ W = w' := fun W => by
        have := kind5_any y W
        unfold kV at this
        rw [← ho, ← hs5, ← hop, ← hq] at this
        rw [bt_at, ← hy]; exact this
      have hfb := fbr_at hjs
      rw [← hy, ← hq] at hfb
      have hjl : j < (lineAt ls i).size := by rw [← HST.out]; exact hjs
      have hyl : y = bt (lineAt ls i) j := by rw [← HST.out]; exact hy
      cases q
      · have HN := Lib.hid (hV.trans (by unfold mtz; rw [← HST.out, hfb]; rfl : _ = mtz ls i (j + 1)))
        clear hV hQ hy ho hs5 hop hq hT hfb hyl
        go_wp2_with fail
        refine (hkd _).mono ?_
        rintro e w' ⟨rfl, rfl⟩
        clear hkd hno
        go_wp2
        go_roundw
        case rel => exact ⟨j + 1, by omega, by go_num, HTT.out, HN.out⟩
        case measure => simp [RowKit.intOf]; omega
      · have hpb := HPA.out wr hT.below j hjl (by rw [← hyl]; exact hq.symm)
        have hrv : r = (match ptn (i, j) (P ls (bt (lineAt ls i) j)) with | some q => ⟨q.1, q.2, 1, true, -1, true⟩ | none => R.no) := by
          rw [hV]
          unfold mtz
          rw [← HST.out, hfb]
          rfl
        clear hV hQ hy ho hs5 hop hq hT hfb hyl
        go_wp2_with fail
        refine (hkd _).mono ?_
        rintro e w' ⟨rfl, rfl⟩
        clear hkd
        cases hpt : ptn (i, j) (P ls (bt (lineAt ls i) j)) with
        | none =>
          rw [hpt] at hpb hrv
          dsimp only [oV, nthU] at hpb
          have HRN := Lib.hid hrv
          clear hrv hpt
          go_wp2_with fail
          refine hpb.mono ?_
          rintro e w4 ⟨rfl, hb_w4⟩
          have T4 := (HTT.out.on hb_w4).on ((Below.refl _ w4).alloc (Nat.le_refl _) (.cells #[.int .i64 0, .int .i64 0] 24))
          clear hpb hb_w4 p0 p1 m0 m1 m2 m3 m4 z
          have p0 := T4.pos.c0
          have p1 := T4.pos.c1
          have m0 := T4.mv.c0
          have m1 := T4.mv.c1
          have m2 := T4.mv.c2
          have m3 := T4.mv.c3
          have m4 := T4.mv.c4
          have z := T4.mv.z
          go_wp2_with fail
          refine (hno _).mono ?_
          rintro e w5 ⟨rfl, hb_w5⟩
          have T4' := T4.on hb_w5
          clear p0 p1 m0 m1 m2 m3 m4 z hb_w5
          have p0 := T4'.pos.c0
          have p1 := T4'.pos.c1
          have m0 := T4'.mv.c0
          have m1 := T4'.mv.c1
          have m2 := T4'.mv.c2
          have m3 := T4'.mv.c3
          have m4 := T4'.mv.c4
          have z := T4'.mv.z
          go_wp2
          obtain ⟨hg, hb⟩ := T4'.ret 0 0 0 0 false
          exact ret_mv (r := R.no) (g := w.heap.size + 1) rfl rfl rfl rfl hg ⟨by rw [HRN.out], hb⟩
        | some q =>
          rw [hpt] at hpb hrv
          dsimp only [oV, nthU] at hpb
          have HRN := Lib.hid hrv
          clear hrv hpt
          go_wp2_with fail
          refine hpb.mono ?_
          rintro e w4 ⟨rfl, hb_w4⟩
          have T4 := (HTT.out.on hb_w4).on ((Below.refl _ w4).alloc (Nat.le_refl _) (.cells #[.int .i64 q.1, .int .i64 q.2] 24))
          clear hpb hb_w4 p0 p1 m0 m1 m2 m3 m4 z hno
          have p0 := T4.pos.c0
          have p1 := T4.pos.c1
          have m0 := T4.mv.c0
          have m1 := T4.mv.c1
          have m2 := T4.mv.c2
          have m3 := T4.mv.c3
          have m4 := T4.mv.c4
          have z := T4.mv.z
          go_wp2
          obtain ⟨hg, hb⟩ := T4.ret q.1 q.2 1 (-1) true
          exact ret_mv (r := ⟨q.1, q.2, 1, true, -1, true⟩) (g := w.heap.size + 1) rfl rfl rfl rfl hg ⟨by rw [HRN.out], hb⟩
    · have HRN := Lib.hid (hV.trans (by unfold mtz; rw [← HST.out, fbr_end (by omega)]; rfl : _ = R.no))
      clear hV hQ
      go_wp2_with fail
      refine (hno _).mono ?_
      rintro e w5 ⟨rfl, hb_w5⟩
      have hT' := hT.on hb_w5
      clear p0 p1 m0 m1 m2 m3 m4 z hb_w5
      have p0 := hT'.pos.c0
      have p1 := hT'.pos.c1
      have m0 := hT'.mv.c0
      have m1 := hT'.mv.c1
      have m2 := hT'.mv.c2
      have m3 := hT'.mv.c3
      have m4 := hT'.mv.c4
      have z := hT'.mv.z
      go_wp2
      obtain ⟨hg, hb⟩ := hT'.ret 0 0 0 0 false
      exact ret_mv (r := R.no) (g := w.heap.size + 1) rfl rfl rfl rfl hg ⟨by rw [HRN.out], hb⟩
end Go.Proofs.Ytjlchnlebiangaa.Pr
