/-
  Package para: Next, Back.
-/
import Derived.Test.YtpdbfdhfonfbeaaGp
set_option linter.unusedVariables false
set_option linter.unusedSimpArgs false
set_option maxRecDepth 100000
namespace Go.Proofs.Ytpdbfdhfonfbeaa.Pa
open Go Go.RowKit Go.Proofs.Ytpdbfdhfonfbeaa.Vk Go.Proofs.Ytpdbfdhfonfbeaa.Str Go.Proofs.Ytpdbfdhfonfbeaa.Ln Go.Proofs.Ytpdbfdhfonfbeaa.Cl Go.Proofs.Ytpdbfdhfonfbeaa.Mv Go.Proofs.Ytpdbfdhfonfbeaa.Wd
attribute [local go_sem] Oper.semAt_some

set_option maxHeartbeats 8000000 in
theorem next_any (a : Option Addr) (n c' : Nat) (ls : List ByteArray) (l c : Int) (nn : Int) (past : Bool) (w : World) (h : Ss w a n c' ls) (hs : ∀ s ∈ ls, s.size ≤ 140737488355328) (hn6 : n ≤ 1000000) (hnn : nn ≤ 9223372036854775807) :
    Calls Try.prog 11 #[.slice a n c', .agg #[.int .i64 l, .int .i64 c], .int .i64 nn, .bool past] w fun e w' => e = .returned (pnR ls l c nn past).v ∧ Below w.heap.size w w' := by
  have hlen := h.length
  have hn := h.le63
  by_cases hp : Plc ls l c
  · by_cases hk : 1 ≤ nn
    · have hp0 := hp
      obtain ⟨i, k, rfl, rfl, hi, hkk⟩ := hp0.nat
      obtain ⟨m, rfl⟩ : ∃ m : Nat, nn = m := ⟨nn.toNat, by omega⟩
      have hm1 : 1 ≤ m := by omega
      have hr : pnR ls i k m past = jmp (nxV ls past m (i, k)) := ifm_yes hp hm1
      rw [hr]
      rw [← nxV_cap (p := (i, k)) (by omega) (by omega) m]
      obtain ⟨K, hK⟩ : ∃ K, K = min m 1073741824 := ⟨_, rfl⟩
      rw [← hK]
      obtain ⟨V, hV⟩ : ∃ V, nxV ls past K (i, k) = V := ⟨_, rfl⟩
      rw [hV]
      obtain ⟨r, hrr⟩ : ∃ r, r = jmp V := ⟨_, rfl⟩
      rw [← hrr]
      have hct : ∀ W, Calls Try.prog 27 #[.int .i64 m] W fun e w' => e = .returned (.int .i64 (K : Int)) ∧ W = w' := fun W => by
        have := counted_any m W
        rw [show min (m : Int) 1073741824 = (K : Int) by omega] at this
        exact this
      have hKb : K ≤ 1073741824 := by omega
      have HR := Lib.hid hrr
      have HV := Lib.hid hV
      have hin : i < n := by omega
      clear hrr hV hK
      obtain ⟨X, hX⟩ : ∃ X, X = ((w.alloc (.cells #[.int .i64 (i : Int), .int .i64 (k : Int)] 24)).alloc (.cells #[.int .i64 0, .int .i64 0, .int .i64 0, .bool false, .int .i64 0] 32)) := ⟨_, rfl⟩
      have hT : Two w X i k := by rw [hX]; exact Two.new w i k
      have HX := Lib.hid hX
      have h1 := inside_any a n c' ls i k X (SrcV.below h hT.below) hs
      rw [decide_eq_true hp] at h1
      have HS := Lib.hid h
      have dn1 : decide ((m : Int) < 1) = false := decide_eq_false (by omega)
      have dn2 : decide (m < 1) = false := decide_eq_false (by omega)
      have p0 := hT.pos.c0
      have p1 := hT.pos.c1
      have m0 := hT.mv.c0
      have m1 := hT.mv.c1
      have m2 := hT.mv.c2
      have m3 := hT.mv.c3
      have m4 := hT.mv.c4
      have z := hT.mv.z
      clear hr hX hp hk hkk h
      go_enter Try.func11, Try.ntmps11
      go_wp2_with fail
      rw [← HX.out]
      refine h1.mono ?_
      rintro e w1 ⟨rfl, hb_w1⟩
      have T1 := hT.on hb_w1
      clear p0 p1 m0 m1 m2 m3 m4 z h1 HX hT hb_w1
      have p0 := T1.pos.c0
      have p1 := T1.pos.c1
      have m0 := T1.mv.c0
      have m1 := T1.mv.c1
      have m2 := T1.mv.c2
      have m3 := T1.mv.c3
      have m4 := T1.mv.c4
      have z := T1.mv.z
      go_wp2_with fail
      refine (hct _).mono ?_
      rintro e w' ⟨rfl, rfl⟩
      clear hct
      clear p0 p1 m0 m1 m2 m3 m4 z
      have HT1 := Lib.hid T1
      clear T1
      go_wp2
      go_loopw [22] (fun u wr => ∃ (j : Nat) (q : P2), j ≤ K ∧ u = .int .i64 j ∧ q.1 < n ∧ Hid (Two w wr q.1 q.2 ∧ nxV ls past (K - j) q = V)) (fun u _ => K - (RowKit.intOf u).toNat)
      case atStart => exact ⟨0, (i, k), Nat.zero_le _, rfl, hin, HT1.out, HV.out⟩
      case round =>
        clear HV HT1 dn1 dn2 hm1 hin hi
        obtain ⟨j, q, hjK, rfl, hqn, hQ⟩ := hrel
        by_cases hjk : j < K
        · obtain ⟨f, hf⟩ : ∃ f, K - j = f + 1 := ⟨K - j - 1, by omega⟩
          obtain ⟨T, hv⟩ := hQ.out
          rw [hf] at hv
          obtain ⟨t, ht⟩ : ∃ t, nxf ls past q = t := ⟨_, rfl⟩
          have ht2 : dn ls past (q.1 + 1) = t := ht
          have htn : t.1 < n := by rw [← ht2, ← hlen]; exact dn_lt (by omega) (by omega)
          have hbl := below_any a n c' ls q.1 past wr (SrcV.below HS.out T.below) hs hqn
          rw [ht2] at hbl
          have HF := Lib.hid (And.intro hf (And.intro hv ht))
          have p0 := T.pos.c0
          have p1 := T.pos.c1
          have m0 := T.mv.c0
          have m1 := T.mv.c1
          have m2 := T.mv.c2
          have m3 := T.mv.c3
          have m4 := T.mv.c4
          have z := T.mv.z
          clear hf hv ht ht2 hQ
          go_wp2_with fail
          refine hbl.mono ?_
          rintro e w2 ⟨rfl, hb_w2⟩
          have T2 := T.on hb_w2
          clear p0 p1 m0 m1 m2 m3 m4 z hb_w2 hbl T
          go_upto_region 6 with fail
          obtain ⟨x2, hx2⟩ : ∃ x2, x2 = w2.alloc (.cells #[.int .i64 t.1, .int .i64 t.2] 24) := ⟨_, rfl⟩
          have hA : Below w2.heap.size w2 x2 := by rw [hx2]; exact (Below.refl _ w2).alloc (Nat.le_refl _) _
          have hG := PosAt.new w2 t.1 t.2
          rw [← hx2] at hG ⊢
          have T3 := T2.on hA
          have hG0 := T2.size
          obtain ⟨g, hg⟩ : ∃ g, g = w2.heap.size := ⟨_, rfl⟩
          rw [← hg] at hG hG0 ⊢
          clear hx2 hg hA
          have p0 := T3.pos.c0
          have p1 := T3.pos.c1
          have m0 := T3.mv.c0
          have m1 := T3.mv.c1
          have m2 := T3.mv.c2
          have m3 := T3.mv.c3
          have m4 := T3.mv.c4
          have z := T3.mv.z
          have g0 := hG.c0
          have g1 := hG.c1
          have hls := So.less_any q.1 q.2 t.1 t.2 x2
          clear T2
          cases hlp : lp q t
          · rw [show So.lt q.1 q.2 t.1 t.2 = false from hlp] at hls
            have hR : r = R.no := by rw [HR.out, ← HF.out.2.1]; exact congrArg jmp (itr_no (ok := lp) HF.out.2.2 hlp)
            have HN := Lib.hid hR
            clear hlp hR
            go_wp2_with fail
            refine hls.mono ?_
            rintro e w3 ⟨rfl, hb_w3⟩
            have T4 := T3.on hb_w3
            clear p0 p1 m0 m1 m2 m3 m4 z g0 g1 hls hb_w3
            have p0 := T4.pos.c0
            have p1 := T4.pos.c1
            have m0 := T4.mv.c0
            have m1 := T4.mv.c1
            have m2 := T4.mv.c2
            have m3 := T4.mv.c3
            have m4 := T4.mv.c4
            have z := T4.mv.z
            go_wp2
            obtain ⟨hg, hb⟩ := T4.ret 0 0 0 0 false
            exact ret_mv (r := R.no) (g := w.heap.size + 1) rfl rfl rfl rfl hg ⟨by rw [HN.out], hb⟩
          · rw [show So.lt q.1 q.2 t.1 t.2 = true from hlp] at hls
            have HN := Lib.hid ((itr_yes (k := f) (ok := lp) HF.out.2.2 hlp).symm.trans HF.out.2.1)
            clear hlp
            go_wp2_with fail
            refine hls.mono ?_
            rintro e w3 ⟨rfl, hb_w3⟩
            have T4 := T3.on hb_w3
            have hG4 := hG.below hb_w3 hG.lt
            clear p0 p1 m0 m1 m2 m3 m4 z g0 g1 hls hb_w3
            have p0 := T4.pos.c0
            have p1 := T4.pos.c1
            have pz := fun k => frozen_of_row w3 w.heap.size k _ _ T4.pos
            have g0 := hG4.c0
            have g1 := hG4.c1
            go_wp2
            go_roundw
            case rel => exact ⟨j + 1, t, by omega, by go_num, htn, T4.move _ _, by rw [show K - (j + 1) = f by have := HF.out.1; omega]; exact HN.out⟩
            case measure => simp [RowKit.intOf] <;> omega
        · obtain rfl : j = K := by omega
          obtain ⟨T, hv⟩ := hQ.out
          have hR : r = ⟨q.1, q.2, 0, true, -1, true⟩ := by rw [HR.out, ← hv, Nat.sub_self]; rfl
          have HN := Lib.hid hR
          have hj := jump_any q.1 q.2 wr
          have p0 := T.pos.c0
          have p1 := T.pos.c1
          have m0 := T.mv.c0
          have m1 := T.mv.c1
          have m2 := T.mv.c2
          have m3 := T.mv.c3
          have m4 := T.mv.c4
          have z := T.mv.z
          clear hR hv hQ
          go_wp2_with fail
          refine hj.mono ?_
          rintro e w2 ⟨rfl, hb_w2⟩
          have T2 := T.on hb_w2
          clear p0 p1 m0 m1 m2 m3 m4 z hb_w2 hj T
          have p0 := T2.pos.c0
          have p1 := T2.pos.c1
          have m0 := T2.mv.c0
          have m1 := T2.mv.c1
          have m2 := T2.mv.c2
          have m3 := T2.mv.c3
          have m4 := T2.mv.c4
          have z := T2.mv.z
          go_wp2
          obtain ⟨hg, hb⟩ := T2.ret q.1 q.2 0 (-1) true
          exact ret_mv (r := ⟨q.1, q.2, 0, true, -1, true⟩) (g := w.heap.size + 1) rfl rfl rfl rfl hg ⟨by rw [HN.out], hb⟩
    · have hr : pnR ls l c nn past = R.no := ifm_no fun hh => hk hh.2
      rw [hr]
      obtain ⟨X, hX⟩ : ∃ X, X = ((w.alloc (.cells #[.int .i64 l, .int .i64 c] 24)).alloc (.cells #[.int .i64 0, .int .i64 0, .int .i64 0, .bool false, .int .i64 0] 32)) := ⟨_, rfl⟩
      have hT : Two w X l c := by rw [hX]; exact Two.new w l c
      have HX := Lib.hid hX
      have h1 := inside_any a n c' ls l c X (SrcV.below h hT.below) hs
      rw [decide_eq_true hp] at h1
      have dn1 : decide (nn < 1) = true := decide_eq_true (by omega)
      have p0 := hT.pos.c0
      have p1 := hT.pos.c1
      have m0 := hT.mv.c0
      have m1 := hT.mv.c1
      have m2 := hT.mv.c2
      have m3 := hT.mv.c3
      have m4 := hT.mv.c4
      have z := hT.mv.z
      clear hr hX hp hk h
      go_enter Try.func11, Try.ntmps11
      go_wp2_with fail
      rw [← HX.out]
      refine h1.mono ?_
      rintro e w1 ⟨rfl, hb_w1⟩
      have T1 := hT.on hb_w1
      clear p0 p1 m0 m1 m2 m3 m4 z h1
      have p0 := T1.pos.c0
      have p1 := T1.pos.c1
      have m0 := T1.mv.c0
      have m1 := T1.mv.c1
      have m2 := T1.mv.c2
      have m3 := T1.mv.c3
      have m4 := T1.mv.c4
      have z := T1.mv.z
      go_wp2
      obtain ⟨hg, hb⟩ := T1.ret 0 0 0 0 false
      exact ret_mv (r := R.no) (g := w.heap.size + 1) rfl rfl rfl rfl hg ⟨rfl, hb⟩
  · have hr : pnR ls l c nn past = R.no := ifm_no fun hh => hp hh.1
    rw [hr]
    obtain ⟨X, hX⟩ : ∃ X, X = ((w.alloc (.cells #[.int .i64 l, .int .i64 c] 24)).alloc (.cells #[.int .i64 0, .int .i64 0, .int .i64 0, .bool false, .int .i64 0] 32)) := ⟨_, rfl⟩
    have hT : Two w X l c := by rw [hX]; exact Two.new w l c
    have HX := Lib.hid hX
    have h1 := inside_any a n c' ls l c X (SrcV.below h hT.below) hs
    rw [decide_eq_false hp] at h1
    have p0 := hT.pos.c0
    have p1 := hT.pos.c1
    have m0 := hT.mv.c0
    have m1 := hT.mv.c1
    have m2 := hT.mv.c2
    have m3 := hT.mv.c3
    have m4 := hT.mv.c4
    have z := hT.mv.z
    clear hr hX hp h
    go_enter Try.func11, Try.ntmps11
    go_wp2_with fail
    rw [← HX.out]
    refine h1.mono ?_
    rintro e w1 ⟨rfl, hb_w1⟩
    have T1 := hT.on hb_w1
    clear p0 p1 m0 m1 m2 m3 m4 z h1
    have p0 := T1.pos.c0
    have p1 := T1.pos.c1
    have m0 := T1.mv.c0
    have m1 := T1.mv.c1
    have m2 := T1.mv.c2
    have m3 := T1.mv.c3
    have m4 := T1.mv.c4
    have z := T1.mv.z
    go_wp2
    obtain ⟨hg, hb⟩ := T1.ret 0 0 0 0 false
    exact ret_mv (r := R.no) (g := w.heap.size + 1) rfl rfl rfl rfl hg ⟨rfl, hb⟩

set_option maxHeartbeats 8000000 in
theorem back_any (a : Option Addr) (n c' : Nat) (ls : List ByteArray) (l c : Int) (nn : Int)  (w : World) (h : Ss w a n c' ls) (hs : ∀ s ∈ ls, s.size ≤ 140737488355328) (hn6 : n ≤ 1000000) (hnn : nn ≤ 9223372036854775807) :
    Calls Try.prog 14 #[.slice a n c', .agg #[.int .i64 l, .int .i64 c], .int .i64 nn] w fun e w' => e = .returned (pbR ls l c nn).v ∧ Below w.heap.size w w' := by
  have hlen := h.length
  have hn := h.le63
  by_cases hp : Plc ls l c
  · by_cases hk : 1 ≤ nn
    · have hp0 := hp
      obtain ⟨i, k, rfl, rfl, hi, hkk⟩ := hp0.nat
      obtain ⟨m, rfl⟩ : ∃ m : Nat, nn = m := ⟨nn.toNat, by omega⟩
      have hm1 : 1 ≤ m := by omega
      have hr : pbR ls i k m = jmp (bkV ls m (i, k)) := ifm_yes hp hm1
      rw [hr]
      rw [← bkV_cap (p := (i, k)) (by omega) (by omega) m]
      obtain ⟨K, hK⟩ : ∃ K, K = min m 1073741824 := ⟨_, rfl⟩
      rw [← hK]
      obtain ⟨V, hV⟩ : ∃ V, bkV ls K (i, k) = V := ⟨_, rfl⟩
      rw [hV]
      obtain ⟨r, hrr⟩ : ∃ r, r = jmp V := ⟨_, rfl⟩
      rw [← hrr]
      have hct : ∀ W, Calls Try.prog 27 #[.int .i64 m] W fun e w' => e = .returned (.int .i64 (K : Int)) ∧ W = w' := fun W => by
        have := counted_any m W
        rw [show min (m : Int) 1073741824 = (K : Int) by omega] at this
        exact this
      have hKb : K ≤ 1073741824 := by omega
      have HR := Lib.hid hrr
      have HV := Lib.hid hV
      have hin : i < n := by omega
      clear hrr hV hK
      obtain ⟨X, hX⟩ : ∃ X, X = ((w.alloc (.cells #[.int .i64 (i : Int), .int .i64 (k : Int)] 24)).alloc (.cells #[.int .i64 0, .int .i64 0, .int .i64 0, .bool false, .int .i64 0] 32)) := ⟨_, rfl⟩
      have hT : Two w X i k := by rw [hX]; exact Two.new w i k
      have HX := Lib.hid hX
      have h1 := inside_any a n c' ls i k X (SrcV.below h hT.below) hs
      rw [decide_eq_true hp] at h1
      have HS := Lib.hid h
      have dn1 : decide ((m : Int) < 1) = false := decide_eq_false (by omega)
      have dn2 : decide (m < 1) = false := decide_eq_false (by omega)
      have p0 := hT.pos.c0
      have p1 := hT.pos.c1
      have m0 := hT.mv.c0
      have m1 := hT.mv.c1
      have m2 := hT.mv.c2
      have m3 := hT.mv.c3
      have m4 := hT.mv.c4
      have z := hT.mv.z
      clear hr hX hp hk hkk h
      go_enter Try.func14, Try.ntmps14
      go_wp2_with fail
      rw [← HX.out]
      refine h1.mono ?_
      rintro e w1 ⟨rfl, hb_w1⟩
      have T1 := hT.on hb_w1
      clear p0 p1 m0 m1 m2 m3 m4 z h1 HX hT hb_w1
      have p0 := T1.pos.c0
      have p1 := T1.pos.c1
      have m0 := T1.mv.c0
      have m1 := T1.mv.c1
      have m2 := T1.mv.c2
      have m3 := T1.mv.c3
      have m4 := T1.mv.c4
      have z := T1.mv.z
      go_wp2_with fail
      refine (hct _).mono ?_
      rintro e w' ⟨rfl, rfl⟩
      clear hct
      clear p0 p1 m0 m1 m2 m3 m4 z
      have HT1 := Lib.hid T1
      clear T1
      go_wp2
      go_loopw [20] (fun u wr => ∃ (j : Nat) (q : P2), j ≤ K ∧ u = .int .i64 j ∧ q.1 < n ∧ Hid (Two w wr q.1 q.2 ∧ bkV ls (K - j) q = V)) (fun u _ => K - (RowKit.intOf u).toNat)
      case atStart => exact ⟨0, (i, k), Nat.zero_le _, rfl, hin, HT1.out, HV.out⟩
      case round =>
        clear HV HT1 dn1 dn2 hm1 hin hi
        obtain ⟨j, q, hjK, rfl, hqn, hQ⟩ := hrel
        by_cases hjk : j < K
        · obtain ⟨f, hf⟩ : ∃ f, K - j = f + 1 := ⟨K - j - 1, by omega⟩
          obtain ⟨T, hv⟩ := hQ.out
          rw [hf] at hv
          obtain ⟨t, ht⟩ : ∃ t, bkf ls q = t := ⟨_, rfl⟩
          have ht2 : up ls q.1 = t := ht
          have htn : t.1 < n := by rw [← ht2, ← hlen]; exact up_lt (by omega)
          have hbl := above_any a n c' ls q.1 wr (SrcV.below HS.out T.below) hs hqn
          rw [ht2] at hbl
          have HF := Lib.hid (And.intro hf (And.intro hv ht))
          have p0 := T.pos.c0
          have p1 := T.pos.c1
          have m0 := T.mv.c0
          have m1 := T.mv.c1
          have m2 := T.mv.c2
          have m3 := T.mv.c3
          have m4 := T.mv.c4
          have z := T.mv.z
          clear hf hv ht ht2 hQ
          go_wp2_with fail
          refine hbl.mono ?_
          rintro e w2 ⟨rfl, hb_w2⟩
          have T2 := T.on hb_w2
          clear p0 p1 m0 m1 m2 m3 m4 z hb_w2 hbl T
          go_upto_region 6 with fail
          obtain ⟨x2, hx2⟩ : ∃ x2, x2 = w2.alloc (.cells #[.int .i64 t.1, .int .i64 t.2] 24) := ⟨_, rfl⟩
          have hA : Below w2.heap.size w2 x2 := by rw [hx2]; exact (Below.refl _ w2).alloc (Nat.le_refl _) _
          have hG := PosAt.new w2 t.1 t.2
          rw [← hx2] at hG ⊢
          have T3 := T2.on hA
          have hG0 := T2.size
          obtain ⟨g, hg⟩ : ∃ g, g = w2.heap.size := ⟨_, rfl⟩
          rw [← hg] at hG hG0 ⊢
          clear hx2 hg hA
          have p0 := T3.pos.c0
          have p1 := T3.pos.c1
          have m0 := T3.mv.c0
          have m1 := T3.mv.c1
          have m2 := T3.mv.c2
          have m3 := T3.mv.c3
          have m4 := T3.mv.c4
          have z := T3.mv.z
          have g0 := hG.c0
          have g1 := hG.c1
          have hls := So.less_any t.1 t.2 q.1 q.2 x2
          clear T2
          cases hlp : lp t q
          · rw [show So.lt t.1 t.2 q.1 q.2 = false from hlp] at hls
            have hR : r = R.no := by rw [HR.out, ← HF.out.2.1]; exact congrArg jmp (itr_no (ok := (fun p t => lp t p)) HF.out.2.2 hlp)
            have HN := Lib.hid hR
            clear hlp hR
            go_wp2_with fail
            refine hls.mono ?_
            rintro e w3 ⟨rfl, hb_w3⟩
            have T4 := T3.on hb_w3
            clear p0 p1 m0 m1 m2 m3 m4 z g0 g1 hls hb_w3
            have p0 := T4.pos.c0
            have p1 := T4.pos.c1
            have m0 := T4.mv.c0
            have m1 := T4.mv.c1
            have m2 := T4.mv.c2
            have m3 := T4.mv.c3
            have m4 := T4.mv.c4
            have z := T4.mv.z
            go_wp2
            obtain ⟨hg, hb⟩ := T4.ret 0 0 0 0 false
            exact ret_mv (r := R.no) (g := w.heap.size + 1) rfl rfl rfl rfl hg ⟨by rw [HN.out], hb⟩
          · rw [show So.lt t.1 t.2 q.1 q.2 = true from hlp] at hls
            have HN := Lib.hid ((itr_yes (k := f) (ok := (fun p t => lp t p)) HF.out.2.2 hlp).symm.trans HF.out.2.1)
            clear hlp
            go_wp2_with fail
            refine hls.mono ?_
            rintro e w3 ⟨rfl, hb_w3⟩
            have T4 := T3.on hb_w3
            have hG4 := hG.below hb_w3 hG.lt
            clear p0 p1 m0 m1 m2 m3 m4 z g0 g1 hls hb_w3
            have p0 := T4.pos.c0
            have p1 := T4.pos.c1
            have pz := fun k => frozen_of_row w3 w.heap.size k _ _ T4.pos
            have g0 := hG4.c0
            have g1 := hG4.c1
            go_wp2
            go_roundw
            case rel => exact ⟨j + 1, t, by omega, by go_num, htn, T4.move _ _, by rw [show K - (j + 1) = f by have := HF.out.1; omega]; exact HN.out⟩
            case measure => simp [RowKit.intOf] <;> omega
        · obtain rfl : j = K := by omega
          obtain ⟨T, hv⟩ := hQ.out
          have hR : r = ⟨q.1, q.2, 0, true, -1, true⟩ := by rw [HR.out, ← hv, Nat.sub_self]; rfl
          have HN := Lib.hid hR
          have hj := jump_any q.1 q.2 wr
          have p0 := T.pos.c0
          have p1 := T.pos.c1
          have m0 := T.mv.c0
          have m1 := T.mv.c1
          have m2 := T.mv.c2
          have m3 := T.mv.c3
          have m4 := T.mv.c4
          have z := T.mv.z
          clear hR hv hQ
          go_wp2_with fail
          refine hj.mono ?_
          rintro e w2 ⟨rfl, hb_w2⟩
          have T2 := T.on hb_w2
          clear p0 p1 m0 m1 m2 m3 m4 z hb_w2 hj T
          have p0 := T2.pos.c0
          have p1 := T2.pos.c1
          have m0 := T2.mv.c0
          have m1 := T2.mv.c1
          have m2 := T2.mv.c2
          have m3 := T2.mv.c3
          have m4 := T2.mv.c4
          have z := T2.mv.z
          go_wp2
          obtain ⟨hg, hb⟩ := T2.ret q.1 q.2 0 (-1) true
          exact ret_mv (r := ⟨q.1, q.2, 0, true, -1, true⟩) (g := w.heap.size + 1) rfl rfl rfl rfl hg ⟨by rw [HN.out], hb⟩
    · have hr : pbR ls l c nn = R.no := ifm_no fun hh => hk hh.2
      rw [hr]
      obtain ⟨X, hX⟩ : ∃ X, X = ((w.alloc (.cells #[.int .i64 l, .int .i64 c] 24)).alloc (.cells #[.int .i64 0, .int .i64 0, .int .i64 0, .bool false, .int .i64 0] 32)) := ⟨_, rfl⟩
      have hT : Two w X l c := by rw [hX]; exact Two.new w l c
      have HX := Lib.hid hX
      have h1 := inside_any a n c' ls l c X (SrcV.below h hT.below) hs
      rw [decide_eq_true hp] at h1
      have dn1 : decide (nn < 1) = true := decide_eq_true (by omega)
      have p0 := hT.pos.c0
      have p1 := hT.pos.c1
      have m0 := hT.mv.c0
      have m1 := hT.mv.c1
      have m2 := hT.mv.c2
      have m3 := hT.mv.c3
      have m4 := hT.mv.c4
      have z := hT.mv.z
      clear hr hX hp hk h
      go_enter Try.func14, Try.ntmps14
      go_wp2_with fail
      rw [← HX.out]
      refine h1.mono ?_
      rintro e w1 ⟨rfl, hb_w1⟩
      have T1 := hT.on hb_w1
      clear p0 p1 m0 m1 m2 m3 m4 z h1
      have p0 := T1.pos.c0
      have p1 := T1.pos.c1
      have m0 := T1.mv.c0
      have m1 := T1.mv.c1
      have m2 := T1.mv.c2
      have m3 := T1.mv.c3
      have m4 := T1.mv.c4
      have z := T1.mv.z
      go_wp2
      obtain ⟨hg, hb⟩ := T1.ret 0 0 0 0 false
      exact ret_mv (r := R.no) (g := w.heap.size + 1) rfl rfl rfl rfl hg ⟨rfl, hb⟩
  · have hr : pbR ls l c nn = R.no := ifm_no fun hh => hp hh.1
    rw [hr]
    obtain ⟨X, hX⟩ : ∃ X, X = ((w.alloc (.cells #[.int .i64 l, .int .i64 c] 24)).alloc (.cells #[.int .i64 0, .int .i64 0, .int .i64 0, .bool false, .int .i64 0] 32)) := ⟨_, rfl⟩
    have hT : Two w X l c := by rw [hX]; exact Two.new w l c
    have HX := Lib.hid hX
    have h1 := inside_any a n c' ls l c X (SrcV.below h hT.below) hs
    rw [decide_eq_false hp] at h1
    have p0 := hT.pos.c0
    have p1 := hT.pos.c1
    have m0 := hT.mv.c0
    have m1 := hT.mv.c1
    have m2 := hT.mv.c2
    have m3 := hT.mv.c3
    have m4 := hT.mv.c4
    have z := hT.mv.z
    clear hr hX hp h
    go_enter Try.func14, Try.ntmps14
    go_wp2_with fail
    rw [← HX.out]
    refine h1.mono ?_
    rintro e w1 ⟨rfl, hb_w1⟩
    have T1 := hT.on hb_w1
    clear p0 p1 m0 m1 m2 m3 m4 z h1
    have p0 := T1.pos.c0
    have p1 := T1.pos.c1
    have m0 := T1.mv.c0
    have m1 := T1.mv.c1
    have m2 := T1.mv.c2
    have m3 := T1.mv.c3
    have m4 := T1.mv.c4
    have z := T1.mv.z
    go_wp2
    obtain ⟨hg, hb⟩ := T1.ret 0 0 0 0 false
    exact ret_mv (r := R.no) (g := w.heap.size + 1) rfl rfl rfl rfl hg ⟨rfl, hb⟩


end Go.Proofs.Ytpdbfdhfonfbeaa.Pa
