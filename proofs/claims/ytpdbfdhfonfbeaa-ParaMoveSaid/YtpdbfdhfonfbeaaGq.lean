/-
  The document's motions by paragraphs.
-/
import Derived.Test.YtpdbfdhfonfbeaaGp
set_option linter.unusedVariables false
set_option linter.unusedSimpArgs false
set_option maxRecDepth 100000
namespace Go.Proofs.Ytpdbfdhfonfbeaa.Pa
open Go Go.RowKit Go.Proofs.Ytpdbfdhfonfbeaa.Vk Go.Proofs.Ytpdbfdhfonfbeaa.Str Go.Proofs.Ytpdbfdhfonfbeaa.Ln Go.Proofs.Ytpdbfdhfonfbeaa.Cl Go.Proofs.Ytpdbfdhfonfbeaa.Mv Go.Proofs.Ytpdbfdhfonfbeaa.Wd
attribute [local go_sem] Oper.semAt_some

set_option maxHeartbeats 8000000 in
theorem next5_any (a : Option Addr) (n c' : Nat) (ls : List ByteArray) (l c : Int) (nn : Int) (past : Bool) (w : World) (h : Ss w a n c' ls) (hs : ∀ s ∈ ls, s.size ≤ 140737488355328) (hn6 : n ≤ 1000000) (hnn : nn ≤ 9223372036854775807) :
    Calls Try.prog 12 #[.slice a n c', .agg #[.int .i64 l, .int .i64 c], .int .i64 nn, .bool past] w fun e w' => e = .returned (pnR ls l c nn past).v ∧ Below w.heap.size w w' := by
  have hlen := h.length
  have hn := h.le63
  by_cases hpk : Plc ls l c ∧ 1 ≤ nn
  · obtain ⟨hp, hk⟩ := hpk
    have hp0 := hp
    obtain ⟨i, k, rfl, rfl, hi, hkk⟩ := hp0.nat
    obtain ⟨m, rfl⟩ : ∃ m : Nat, nn = m := ⟨nn.toNat, by omega⟩
    have hm1 : 1 ≤ m := by omega
    have hr : pnR ls i k m past = jmp (nxV ls past m (i, k)) := ifm_yes hp hm1
    rw [hr]
    obtain ⟨V, hV⟩ : ∃ V, nxV ls past m (i, k) = V := ⟨_, rfl⟩
    rw [hV]
    obtain ⟨r, hrr⟩ : ∃ r, r = jmp V := ⟨_, rfl⟩
    rw [← hrr]
    have HR := Lib.hid hrr
    have HV := Lib.hid hV
    have hin : i < n := by omega
    clear hrr hV
    obtain ⟨X, hX⟩ : ∃ X, X = ((w.alloc (.cells #[.int .i64 (i : Int), .int .i64 (k : Int)] 24)).alloc (.cells #[.int .i64 0, .int .i64 0, .int .i64 0, .bool false, .int .i64 0] 32)) := ⟨_, rfl⟩
    have hT : Two w X i k := by rw [hX]; exact Two.new w i k
    have HX := Lib.hid hX
    have h1 := may_any a n c' ls i k m X (SrcV.below h hT.below)
    rw [decide_eq_true (p := Plc ls (i : Int) (k : Int) ∧ 1 ≤ (m : Int)) ⟨hp, hk⟩] at h1
    have HS := Lib.hid h
    have p0 := hT.pos.c0
    have p1 := hT.pos.c1
    have m0 := hT.mv.c0
    have m1 := hT.mv.c1
    have m2 := hT.mv.c2
    have m3 := hT.mv.c3
    have m4 := hT.mv.c4
    have z := hT.mv.z
    clear hr hX hp hk hkk h
    go_enter Try.func12, Try.ntmps12
    go_wp2_with fail
    rw [← HX.out]
    refine h1.mono ?_
    rintro e w1 ⟨rfl, hb_w1⟩
    have T1 := hT.on hb_w1
    clear p0 p1 m0 m1 m2 m3 m4 z h1 HX hT hb_w1
    have p0 := T1.pos.c0
    have p1 := T1.pos.c1
    have m0 := T1.mv.c0
    have m1 := T1.mv.c1
    have m2 := T1.mv.c2
    have m3 := T1.mv.c3
    have m4 := T1.mv.c4
    have z := T1.mv.z
    clear p0 p1 m0 m1 m2 m3 m4 z
    have HT1 := Lib.hid T1
    clear T1
    go_wp2
    go_loopw [2] (fun u wr => ∃ (j : Nat) (q : P2), j ≤ m ∧ u = .int .i64 j ∧ q.1 < n ∧ Hid (Two w wr q.1 q.2 ∧ nxV ls past j q = V)) (fun u _ => (RowKit.intOf u).toNat)
    case atStart => exact ⟨m, (i, k), Nat.le_refl _, rfl, hin, HT1.out, HV.out⟩
    case round =>
      clear HV HT1 hm1 hin hi
      obtain ⟨j, q, hjm, rfl, hqn, hQ⟩ := hrel
      by_cases hj0 : 0 < j
      · obtain ⟨f, hf⟩ : ∃ f, j = f + 1 := ⟨j - 1, by omega⟩
        obtain ⟨T, hv⟩ := hQ.out
        rw [hf] at hv
        have hwf : IntKind.i64.wrap ((j : Int) - 1) = (f : Int) := by rw [IntKind.wrap_i64]; omega
        obtain ⟨t, ht⟩ : ∃ t, nxf ls past q = t := ⟨_, rfl⟩
        have ht2 : dn ls past (q.1 + 1) = t := ht
        have htn : t.1 < n := by rw [← ht2, ← hlen]; exact dn_lt (by omega) (by omega)
        have HF := Lib.hid (And.intro hv ht)
        have hfm : f ≤ m := by omega
        have hjf : f < j := by omega
        have hj0' : decide (0 < j) = true := decide_eq_true hj0
        have he5 := end5_any a n c' ls wr (SrcV.below HS.out T.below) (by omega)
        obtain ⟨i1, hi1⟩ : ∃ i1, i1 = ls.length - 1 := ⟨_, rfl⟩
        obtain ⟨sz, hsz⟩ : ∃ sz, sz = (lineAt ls i1).size := ⟨_, rfl⟩
        rw [show endP ls (ls.length - 1) = (i1, sz) by rw [← hi1, hsz]; rfl] at he5
        have hszb : sz ≤ 140737488355328 := by rw [hsz, lineAt_get (by omega)]; exact hs _ (List.getElem_mem _)
        have hlast : lastP ls past = (i1, if past = true then sz else sz - 1) := by rw [hi1, hsz, hi1]; rfl
        clear hv ht ht2 hQ hf hsz hi1
        go_wp2_with fail
        refine he5.mono ?_
        rintro e w2 ⟨rfl, hb_w2⟩
        have T2 := T.on hb_w2
        clear hb_w2 he5 T
        go_upto_region 6 with fail
        obtain ⟨x2, hx2⟩ : ∃ x2, x2 = w2.alloc (.cells #[.int .i64 i1, .int .i64 sz] 24) := ⟨_, rfl⟩
        have hA : Below w2.heap.size w2 x2 := by rw [hx2]; exact (Below.refl _ w2).alloc (Nat.le_refl _) _
        have hG := PosAt.new w2 i1 sz
        rw [← hx2] at hG ⊢
        have T3 := T2.on hA
        have hG0 := T2.size
        obtain ⟨g, hg⟩ : ∃ g, g = w2.heap.size := ⟨_, rfl⟩
        rw [← hg] at hG hG0 ⊢
        clear hx2 hg hA
        clear T2
        cases past
        · have hws : IntKind.i64.wrap ((sz : Int) - 1) = (sz : Int) - 1 := by rw [IntKind.wrap_i64]; omega
          obtain ⟨s1, hs1⟩ : ∃ s1, s1 = sz - 1 := ⟨_, rfl⟩
          have e1 : (if (sz : Int) - 1 < 0 then 0 else (sz : Int) - 1) = (s1 : Int) := by split <;> omega
          have e2 : max ((sz : Int) - 1) 0 = (s1 : Int) := by omega
          have hlast2 : lastP ls false = (i1, s1) := by rw [hlast, hs1]; rfl
          clear hs1 hlast
          have g0 := hG.c0
          have g1 := hG.c1
          have gz := fun k => frozen_of_row x2 g k _ _ hG
          go_upto_region 8 with fail
          clear e1 e2 hws g0 g1 gz
          obtain ⟨x4, hx4⟩ : ∃ x4, x4 = x2.setCell ⟨g, 1, none⟩ (.int .i64 s1) := ⟨_, rfl⟩
          have T4 : Two w x4 q.1 q.2 := by rw [hx4]; exact T3.set hG0 _ _
          have hG : PosAt x4 g (lastP ls false).1 (lastP ls false).2 := by
            rw [hx4, hlast2]
            exact (heap_setCell_same x2 g 1 _ _ (.int .i64 s1) hG).trans (by simp)
          rw [← hx4]
          clear hx4 hlast2 T3
          obtain ⟨L, hL⟩ : ∃ L, L = q.1 + 1 := ⟨_, rfl⟩
          have hw : IntKind.i64.wrap ((q.1 : Int) + 1) = (L : Int) := by rw [IntKind.wrap_i64]; omega
          have hLn : L ≤ n := by omega
          have hL0 : 0 < L := by omega
          have htL : t = dn ls false L := by rw [hL]; exact HF.out.2.symm
          have p0 := T4.pos.c0
          clear hL
          go_wp2
          clear hw p0
          go_loop [11] (fun u => ∃ kk : Nat, kk ≤ n ∧ 0 < kk ∧ u = .int .i64 kk ∧ Hid (t = dn ls false kk)) (fun u => n - (RowKit.intOf u).toNat)
          case atStart => exact ⟨L, hLn, hL0, rfl, htL⟩
          case round =>
            clear htL
            obtain ⟨kk, hkn', hk0, rfl, hd⟩ := hrel
            by_cases hkn : kk < n
            · obtain ⟨mm, hkm⟩ : ∃ mm, mm = kk - 1 := ⟨_, rfl⟩
              have hwm : IntKind.i64.wrap ((kk : Int) - 1) = (mm : Int) := by rw [IntKind.wrap_i64]; omega
              have hmn : mm < n := by omega
              have HKM := Lib.hid hkm
              clear hkm
              obtain ⟨b, o, rfl, hcx, hnc, _⟩ := HS.out.read kk (by omega)
              obtain ⟨b', o', he', hcy, _, _⟩ := HS.out.read mm (by omega)
              obtain ⟨rfl, rfl⟩ : b' = b ∧ o' = o := by
                injection he' with he'
                injection he' with h1 h2
                exact ⟨h1.symm, h2.symm⟩
              rw [← lineAt_get (ls := ls) (k := kk) (by omega)] at hcx
              rw [← lineAt_get (ls := ls) (k := mm) (by omega)] at hcy
              have c3 := cell_later T4.below hcx
              have c4 := cell_later T4.below hcy
              clear hcx hcy he' 
              by_cases hx : (lineAt ls kk).size = 0
              · have ex := empty_of_zero hx
                by_cases hy : (lineAt ls mm).size = 0
                · have ey := empty_of_zero hy
                  have hp : pab ls kk = false := by unfold pab; rw [← HKM.out]; rw [decide_eq_true hx, decide_eq_false (fun hh => hh hy)]; rfl
                  clear hx hy
                  have HVd := Lib.hid (hd.out.trans (dn_no (past := false) (by omega) hp))
                  clear hp hd
                  go_wp2
                  go_round
                  case rel => exact ⟨kk + 1, by omega, by omega, by go_num, HVd⟩
                  case measure => simp [RowKit.intOf] <;> omega
                · have ey := empty_of_pos (x := lineAt ls mm) (by omega)
                  have hp : pab ls kk = true := by unfold pab; rw [← HKM.out]; rw [decide_eq_true hx, decide_eq_true hy]; rfl
                  clear hx hy
                  have htk : t = (kk, 0) := (hd.out.trans (dn_yes (past := false) (by omega) hp))
                  clear hp hd
                  have g0 := hG.c0
                  have g1 := hG.c1
                  have gz := fun k => frozen_of_row x4 g k _ _ hG
                  go_upto_region 13 with fail
                  clear g0 g1 gz c3 c4 ex ey hwm
                  obtain ⟨x5, hx5⟩ : ∃ x5, x5 = (x4.setCell ⟨g, 0, none⟩ (.int .i64 kk)).setCell ⟨g, 1, none⟩ (.int .i64 0) := ⟨_, rfl⟩
                  have T6 : Two w x5 q.1 q.2 := by rw [hx5]; exact T4.setp hG0 _ _
                  have hG : PosAt x5 g t.1 t.2 := by rw [hx5, htk]; exact So.set2 hG
                  rw [← hx5]
                  clear hx5 htk
                  have p0 := T6.pos.c0
                  have p1 := T6.pos.c1
                  have g0 := hG.c0
                  have g1 := hG.c1
                  have hls := So.less5_any q.1 q.2 t.1 t.2 x5
                  cases hlp : lp q t
                  · rw [show So.lt q.1 q.2 t.1 t.2 = false from hlp] at hls
                    have hR : r = R.no := by rw [HR.out, ← HF.out.1]; exact congrArg jmp (itr_no (ok := lp) HF.out.2 hlp)
                    have HN := Lib.hid hR
                    clear hlp hR
                    go_wp2_with fail
                    refine hls.mono ?_
                    rintro e w5 ⟨rfl, hb_w5⟩
                    have T5 := T6.on hb_w5
                    clear p0 p1 g0 g1 hls hb_w5
                    go_wp2_with fail
                    refine (none_any' w5).mono ?_
                    rintro e w6 ⟨rfl, hb_w6⟩
                    have T6 := T5.on hb_w6
                    clear hb_w6
                    have p0 := T6.pos.c0
                    have p1 := T6.pos.c1
                    have m0 := T6.mv.c0
                    have m1 := T6.mv.c1
                    have m2 := T6.mv.c2
                    have m3 := T6.mv.c3
                    have m4 := T6.mv.c4
                    have z := T6.mv.z
                    go_wp2
                    obtain ⟨hg, hb⟩ := T6.ret 0 0 0 0 false
                    exact ret_mv (r := R.no) (g := w.heap.size + 1) rfl rfl rfl rfl hg ⟨by rw [HN.out], hb⟩
                  · rw [show So.lt q.1 q.2 t.1 t.2 = true from hlp] at hls
                    have HN := Lib.hid ((itr_yes (k := f) (ok := lp) HF.out.2 hlp).symm.trans HF.out.1)
                    clear hlp
                    go_wp2_with fail
                    refine hls.mono ?_
                    rintro e w5 ⟨rfl, hb_w5⟩
                    have T5 := T6.on hb_w5
                    have hG5 := hG.below hb_w5 hG.lt
                    clear p0 p1 g0 g1 hls hb_w5
                    have p0 := T5.pos.c0
                    have p1 := T5.pos.c1
                    have pz := fun k => frozen_of_row w5 w.heap.size k _ _ T5.pos
                    have g0 := hG5.c0
                    have g1 := hG5.c1
                    go_wp2
                    go_roundw
                    case rel => exact ⟨f, t, by omega, rfl, htn, T5.move _ _, HN.out⟩
                    case measure => simp [RowKit.intOf] <;> omega
              · have ex := empty_of_pos (x := lineAt ls kk) (by omega)
                have hp : pab ls kk = false := by unfold pab; rw [← HKM.out]; rw [decide_eq_false hx]; rfl
                clear hx
                have HVd := Lib.hid (hd.out.trans (dn_no (past := false) (by omega) hp))
                clear hp hd
                go_wp2
                go_round
                case rel => exact ⟨kk + 1, by omega, by omega, by go_num, HVd⟩
                case measure => simp [RowKit.intOf] <;> omega
            · obtain rfl : kk = n := by omega
              have htk : t = lastP ls false := (hd.out.trans (dn_end (past := false) (by omega)))
              rw [← htk] at hG
              clear hd htk
              go_upto_region 13 with fail
              have p0 := T4.pos.c0
              have p1 := T4.pos.c1
              have g0 := hG.c0
              have g1 := hG.c1
              have hls := So.less5_any q.1 q.2 t.1 t.2 x4
              cases hlp : lp q t
              · rw [show So.lt q.1 q.2 t.1 t.2 = false from hlp] at hls
                have hR : r = R.no := by rw [HR.out, ← HF.out.1]; exact congrArg jmp (itr_no (ok := lp) HF.out.2 hlp)
                have HN := Lib.hid hR
                clear hlp hR
                go_wp2_with fail
                refine hls.mono ?_
                rintro e w5 ⟨rfl, hb_w5⟩
                have T5 := T4.on hb_w5
                clear p0 p1 g0 g1 hls hb_w5
                go_wp2_with fail
                refine (none_any' w5).mono ?_
                rintro e w6 ⟨rfl, hb_w6⟩
                have T6 := T5.on hb_w6
                clear hb_w6
                have p0 := T6.pos.c0
                have p1 := T6.pos.c1
                have m0 := T6.mv.c0
                have m1 := T6.mv.c1
                have m2 := T6.mv.c2
                have m3 := T6.mv.c3
                have m4 := T6.mv.c4
                have z := T6.mv.z
                go_wp2
                obtain ⟨hg, hb⟩ := T6.ret 0 0 0 0 false
                exact ret_mv (r := R.no) (g := w.heap.size + 1) rfl rfl rfl rfl hg ⟨by rw [HN.out], hb⟩
              · rw [show So.lt q.1 q.2 t.1 t.2 = true from hlp] at hls
                have HN := Lib.hid ((itr_yes (k := f) (ok := lp) HF.out.2 hlp).symm.trans HF.out.1)
                clear hlp
                go_wp2_with fail
                refine hls.mono ?_
                rintro e w5 ⟨rfl, hb_w5⟩
                have T5 := T4.on hb_w5
                have hG5 := hG.below hb_w5 hG.lt
                clear p0 p1 g0 g1 hls hb_w5
                have p0 := T5.pos.c0
                have p1 := T5.pos.c1
                have pz := fun k => frozen_of_row w5 w.heap.size k _ _ T5.pos
                have g0 := hG5.c0
                have g1 := hG5.c1
                go_wp2
                go_roundw
                case rel => exact ⟨f, t, by omega, rfl, htn, T5.move _ _, HN.out⟩
                case measure => simp [RowKit.intOf] <;> omega
        · have hlast2 : lastP ls true = (i1, sz) := hlast
          clear hlast
          go_upto_region 8 with fail
          obtain ⟨x4, hx4⟩ : ∃ x4, x4 = x2 := ⟨_, rfl⟩
          have T4 : Two w x4 q.1 q.2 := by rw [hx4]; exact T3
          have hG : PosAt x4 g (lastP ls true).1 (lastP ls true).2 := by rw [hx4, hlast2]; exact hG
          rw [← hx4]
          clear hx4 hlast2 T3
          obtain ⟨L, hL⟩ : ∃ L, L = q.1 + 1 := ⟨_, rfl⟩
          have hw : IntKind.i64.wrap ((q.1 : Int) + 1) = (L : Int) := by rw [IntKind.wrap_i64]; omega
          have hLn : L ≤ n := by omega
          have hL0 : 0 < L := by omega
          have htL : t = dn ls true L := by rw [hL]; exact HF.out.2.symm
          have p0 := T4.pos.c0
          clear hL
          go_wp2
          clear hw p0
          go_loop [11] (fun u => ∃ kk : Nat, kk ≤ n ∧ 0 < kk ∧ u = .int .i64 kk ∧ Hid (t = dn ls true kk)) (fun u => n - (RowKit.intOf u).toNat)
          case atStart => exact ⟨L, hLn, hL0, rfl, htL⟩
          case round =>
            clear htL
            obtain ⟨kk, hkn', hk0, rfl, hd⟩ := hrel
            by_cases hkn : kk < n
            · obtain ⟨mm, hkm⟩ : ∃ mm, mm = kk - 1 := ⟨_, rfl⟩
              have hwm : IntKind.i64.wrap ((kk : Int) - 1) = (mm : Int) := by rw [IntKind.wrap_i64]; omega
              have hmn : mm < n := by omega
              have HKM := Lib.hid hkm
              clear hkm
              obtain ⟨b, o, rfl, hcx, hnc, _⟩ := HS.out.read kk (by omega)
              obtain ⟨b', o', he', hcy, _, _⟩ := HS.out.read mm (by omega)
              obtain ⟨rfl, rfl⟩ : b' = b ∧ o' = o := by
                injection he' with he'
                injection he' with h1 h2
                exact ⟨h1.symm, h2.symm⟩
              rw [← lineAt_get (ls := ls) (k := kk) (by omega)] at hcx
              rw [← lineAt_get (ls := ls) (k := mm) (by omega)] at hcy
              have c3 := cell_later T4.below hcx
              have c4 := cell_later T4.below hcy
              clear hcx hcy he' 
              by_cases hx : (lineAt ls kk).size = 0
              · have ex := empty_of_zero hx
                by_cases hy : (lineAt ls mm).size = 0
                · have ey := empty_of_zero hy
                  have hp : pab ls kk = false := by unfold pab; rw [← HKM.out]; rw [decide_eq_true hx, decide_eq_false (fun hh => hh hy)]; rfl
                  clear hx hy
                  have HVd := Lib.hid (hd.out.trans (dn_no (past := true) (by omega) hp))
                  clear hp hd
                  go_wp2
                  go_round
                  case rel => exact ⟨kk + 1, by omega, by omega, by go_num, HVd⟩
                  case measure => simp [RowKit.intOf] <;> omega
                · have ey := empty_of_pos (x := lineAt ls mm) (by omega)
                  have hp : pab ls kk = true := by unfold pab; rw [← HKM.out]; rw [decide_eq_true hx, decide_eq_true hy]; rfl
                  clear hx hy
                  have htk : t = (kk, 0) := (hd.out.trans (dn_yes (past := true) (by omega) hp))
                  clear hp hd
                  have g0 := hG.c0
                  have g1 := hG.c1
                  have gz := fun k => frozen_of_row x4 g k _ _ hG
                  go_upto_region 13 with fail
                  clear g0 g1 gz c3 c4 ex ey hwm
                  obtain ⟨x5, hx5⟩ : ∃ x5, x5 = (x4.setCell ⟨g, 0, none⟩ (.int .i64 kk)).setCell ⟨g, 1, none⟩ (.int .i64 0) := ⟨_, rfl⟩
                  have T6 : Two w x5 q.1 q.2 := by rw [hx5]; exact T4.setp hG0 _ _
                  have hG : PosAt x5 g t.1 t.2 := by rw [hx5, htk]; exact So.set2 hG
                  rw [← hx5]
                  clear hx5 htk
                  have p0 := T6.pos.c0
                  have p1 := T6.pos.c1
                  have g0 := hG.c0
                  have g1 := hG.c1
                  have hls := So.less5_any q.1 q.2 t.1 t.2 x5
                  cases hlp : lp q t
                  · rw [show So.lt q.1 q.2 t.1 t.2 = false from hlp] at hls
                    have hR : r = R.no := by rw [HR.out, ← HF.out.1]; exact congrArg jmp (itr_no (ok := lp) HF.out.2 hlp)
                    have HN := Lib.hid hR
                    clear hlp hR
                    go_wp2_with fail
                    refine hls.mono ?_
                    rintro e w5 ⟨rfl, hb_w5⟩
                    have T5 := T6.on hb_w5
                    clear p0 p1 g0 g1 hls hb_w5
                    go_wp2_with fail
                    refine (none_any' w5).mono ?_
                    rintro e w6 ⟨rfl, hb_w6⟩
                    have T6 := T5.on hb_w6
                    clear hb_w6
                    have p0 := T6.pos.c0
                    have p1 := T6.pos.c1
                    have m0 := T6.mv.c0
                    have m1 := T6.mv.c1
                    have m2 := T6.mv.c2
                    have m3 := T6.mv.c3
                    have m4 := T6.mv.c4
                    have z := T6.mv.z
                    go_wp2
                    obtain ⟨hg, hb⟩ := T6.ret 0 0 0 0 false
                    exact ret_mv (r := R.no) (g := w.heap.size + 1) rfl rfl rfl rfl hg ⟨by rw [HN.out], hb⟩
                  · rw [show So.lt q.1 q.2 t.1 t.2 = true from hlp] at hls
                    have HN := Lib.hid ((itr_yes (k := f) (ok := lp) HF.out.2 hlp).symm.trans HF.out.1)
                    clear hlp
                    go_wp2_with fail
                    refine hls.mono ?_
                    rintro e w5 ⟨rfl, hb_w5⟩
                    have T5 := T6.on hb_w5
                    have hG5 := hG.below hb_w5 hG.lt
                    clear p0 p1 g0 g1 hls hb_w5
                    have p0 := T5.pos.c0
                    have p1 := T5.pos.c1
                    have pz := fun k => frozen_of_row w5 w.heap.size k _ _ T5.pos
                    have g0 := hG5.c0
                    have g1 := hG5.c1
                    go_wp2
                    go_roundw
                    case rel => exact ⟨f, t, by omega, rfl, htn, T5.move _ _, HN.out⟩
                    case measure => simp [RowKit.intOf] <;> omega
              · have ex := empty_of_pos (x := lineAt ls kk) (by omega)
                have hp : pab ls kk = false := by unfold pab; rw [← HKM.out]; rw [decide_eq_false hx]; rfl
                clear hx
                have HVd := Lib.hid (hd.out.trans (dn_no (past := true) (by omega) hp))
                clear hp hd
                go_wp2
                go_round
                case rel => exact ⟨kk + 1, by omega, by omega, by go_num, HVd⟩
                case measure => simp [RowKit.intOf] <;> omega
            · obtain rfl : kk = n := by omega
              have htk : t = lastP ls true := (hd.out.trans (dn_end (past := true) (by omega)))
              rw [← htk] at hG
              clear hd htk
              go_upto_region 13 with fail
              have p0 := T4.pos.c0
              have p1 := T4.pos.c1
              have g0 := hG.c0
              have g1 := hG.c1
              have hls := So.less5_any q.1 q.2 t.1 t.2 x4
              cases hlp : lp q t
              · rw [show So.lt q.1 q.2 t.1 t.2 = false from hlp] at hls
                have hR : r = R.no := by rw [HR.out, ← HF.out.1]; exact congrArg jmp (itr_no (ok := lp) HF.out.2 hlp)
                have HN := Lib.hid hR
                clear hlp hR
                go_wp2_with fail
                refine hls.mono ?_
                rintro e w5 ⟨rfl, hb_w5⟩
                have T5 := T4.on hb_w5
                clear p0 p1 g0 g1 hls hb_w5
                go_wp2_with fail
                refine (none_any' w5).mono ?_
                rintro e w6 ⟨rfl, hb_w6⟩
                have T6 := T5.on hb_w6
                clear hb_w6
                have p0 := T6.pos.c0
                have p1 := T6.pos.c1
                have m0 := T6.mv.c0
                have m1 := T6.mv.c1
                have m2 := T6.mv.c2
                have m3 := T6.mv.c3
                have m4 := T6.mv.c4
                have z := T6.mv.z
                go_wp2
                obtain ⟨hg, hb⟩ := T6.ret 0 0 0 0 false
                exact ret_mv (r := R.no) (g := w.heap.size + 1) rfl rfl rfl rfl hg ⟨by rw [HN.out], hb⟩
              · rw [show So.lt q.1 q.2 t.1 t.2 = true from hlp] at hls
                have HN := Lib.hid ((itr_yes (k := f) (ok := lp) HF.out.2 hlp).symm.trans HF.out.1)
                clear hlp
                go_wp2_with fail
                refine hls.mono ?_
                rintro e w5 ⟨rfl, hb_w5⟩
                have T5 := T4.on hb_w5
                have hG5 := hG.below hb_w5 hG.lt
                clear p0 p1 g0 g1 hls hb_w5
                have p0 := T5.pos.c0
                have p1 := T5.pos.c1
                have pz := fun k => frozen_of_row w5 w.heap.size k _ _ T5.pos
                have g0 := hG5.c0
                have g1 := hG5.c1
                go_wp2
                go_roundw
                case rel => exact ⟨f, t, by omega, rfl, htn, T5.move _ _, HN.out⟩
                case measure => simp [RowKit.intOf] <;> omega
      · obtain rfl : j = 0 := by omega
        obtain ⟨T, hv⟩ := hQ.out
        have hR : r = ⟨q.1, q.2, 0, true, -1, true⟩ := by rw [HR.out, ← hv]; rfl
        have HN := Lib.hid hR
        have hj := jump5_any q.1 q.2 wr
        have p0 := T.pos.c0
        have p1 := T.pos.c1
        have m0 := T.mv.c0
        have m1 := T.mv.c1
        have m2 := T.mv.c2
        have m3 := T.mv.c3
        have m4 := T.mv.c4
        have z := T.mv.z
        clear hR hv hQ
        go_wp2_with fail
        refine hj.mono ?_
        rintro e w2 ⟨rfl, hb_w2⟩
        have T2 := T.on hb_w2
        clear p0 p1 m0 m1 m2 m3 m4 z hb_w2 hj T
        have p0 := T2.pos.c0
        have p1 := T2.pos.c1
        have m0 := T2.mv.c0
        have m1 := T2.mv.c1
        have m2 := T2.mv.c2
        have m3 := T2.mv.c3
        have m4 := T2.mv.c4
        have z := T2.mv.z
        go_wp2
        obtain ⟨hg, hb⟩ := T2.ret q.1 q.2 0 (-1) true
        exact ret_mv (r := ⟨q.1, q.2, 0, true, -1, true⟩) (g := w.heap.size + 1) rfl rfl rfl rfl hg ⟨by rw [HN.out], hb⟩
  · have hr : pnR ls l c nn past = R.no := ifm_no hpk
    rw [hr]
    obtain ⟨X, hX⟩ : ∃ X, X = ((w.alloc (.cells #[.int .i64 l, .int .i64 c] 24)).alloc (.cells #[.int .i64 0, .int .i64 0, .int .i64 0, .bool false, .int .i64 0] 32)) := ⟨_, rfl⟩
    have hT : Two w X l c := by rw [hX]; exact Two.new w l c
    have HX := Lib.hid hX
    have h1 := may_any a n c' ls l c nn X (SrcV.below h hT.below)
    rw [decide_eq_false hpk] at h1
    have p0 := hT.pos.c0
    have p1 := hT.pos.c1
    have m0 := hT.mv.c0
    have m1 := hT.mv.c1
    have m2 := hT.mv.c2
    have m3 := hT.mv.c3
    have m4 := hT.mv.c4
    have z := hT.mv.z
    clear hr hX hpk h
    go_enter Try.func12, Try.ntmps12
    go_wp2_with fail
    rw [← HX.out]
    refine h1.mono ?_
    rintro e w1 ⟨rfl, hb_w1⟩
    have T1 := hT.on hb_w1
    clear p0 p1 m0 m1 m2 m3 m4 z h1
    have p0 := T1.pos.c0
    have p1 := T1.pos.c1
    have m0 := T1.mv.c0
    have m1 := T1.mv.c1
    have m2 := T1.mv.c2
    have m3 := T1.mv.c3
    have m4 := T1.mv.c4
    have z := T1.mv.z
    go_wp2_with fail
    refine (none_any' _).mono ?_
    rintro e w2 ⟨rfl, hb_w2⟩
    have T2 := T1.on hb_w2
    clear p0 p1 m0 m1 m2 m3 m4 z
    have p0 := T2.pos.c0
    have p1 := T2.pos.c1
    have m0 := T2.mv.c0
    have m1 := T2.mv.c1
    have m2 := T2.mv.c2
    have m3 := T2.mv.c3
    have m4 := T2.mv.c4
    have z := T2.mv.z
    go_wp2
    obtain ⟨hg, hb⟩ := T2.ret 0 0 0 0 false
    exact ret_mv (r := R.no) (g := w.heap.size + 1) rfl rfl rfl rfl hg ⟨rfl, hb⟩

set_option maxHeartbeats 8000000 in
theorem back5_any (a : Option Addr) (n c' : Nat) (ls : List ByteArray) (l c : Int) (nn : Int)  (w : World) (h : Ss w a n c' ls) (hs : ∀ s ∈ ls, s.size ≤ 140737488355328) (hn6 : n ≤ 1000000) (hnn : nn ≤ 9223372036854775807) :
    Calls Try.prog 15 #[.slice a n c', .agg #[.int .i64 l, .int .i64 c], .int .i64 nn] w fun e w' => e = .returned (pbR ls l c nn).v ∧ Below w.heap.size w w' := by
  have hlen := h.length
  have hn := h.le63
  by_cases hpk : Plc ls l c ∧ 1 ≤ nn
  · obtain ⟨hp, hk⟩ := hpk
    have hp0 := hp
    obtain ⟨i, k, rfl, rfl, hi, hkk⟩ := hp0.nat
    obtain ⟨m, rfl⟩ : ∃ m : Nat, nn = m := ⟨nn.toNat, by omega⟩
    have hm1 : 1 ≤ m := by omega
    have hr : pbR ls i k m = jmp (bkV ls m (i, k)) := ifm_yes hp hm1
    rw [hr]
    obtain ⟨V, hV⟩ : ∃ V, bkV ls m (i, k) = V := ⟨_, rfl⟩
    rw [hV]
    obtain ⟨r, hrr⟩ : ∃ r, r = jmp V := ⟨_, rfl⟩
    rw [← hrr]
    have HR := Lib.hid hrr
    have HV := Lib.hid hV
    have hin : i < n := by omega
    clear hrr hV
    obtain ⟨X, hX⟩ : ∃ X, X = ((w.alloc (.cells #[.int .i64 (i : Int), .int .i64 (k : Int)] 24)).alloc (.cells #[.int .i64 0, .int .i64 0, .int .i64 0, .bool false, .int .i64 0] 32)) := ⟨_, rfl⟩
    have hT : Two w X i k := by rw [hX]; exact Two.new w i k
    have HX := Lib.hid hX
    have h1 := may_any a n c' ls i k m X (SrcV.below h hT.below)
    rw [decide_eq_true (p := Plc ls (i : Int) (k : Int) ∧ 1 ≤ (m : Int)) ⟨hp, hk⟩] at h1
    have HS := Lib.hid h
    have p0 := hT.pos.c0
    have p1 := hT.pos.c1
    have m0 := hT.mv.c0
    have m1 := hT.mv.c1
    have m2 := hT.mv.c2
    have m3 := hT.mv.c3
    have m4 := hT.mv.c4
    have z := hT.mv.z
    clear hr hX hp hk hkk h
    go_enter Try.func15, Try.ntmps15
    go_wp2_with fail
    rw [← HX.out]
    refine h1.mono ?_
    rintro e w1 ⟨rfl, hb_w1⟩
    have T1 := hT.on hb_w1
    clear p0 p1 m0 m1 m2 m3 m4 z h1 HX hT hb_w1
    have p0 := T1.pos.c0
    have p1 := T1.pos.c1
    have m0 := T1.mv.c0
    have m1 := T1.mv.c1
    have m2 := T1.mv.c2
    have m3 := T1.mv.c3
    have m4 := T1.mv.c4
    have z := T1.mv.z
    clear p0 p1 m0 m1 m2 m3 m4 z
    have HT1 := Lib.hid T1
    clear T1
    go_wp2
    go_loopw [2] (fun u wr => ∃ (j : Nat) (q : P2), j ≤ m ∧ u = .int .i64 j ∧ q.1 < n ∧ Hid (Two w wr q.1 q.2 ∧ bkV ls j q = V)) (fun u _ => (RowKit.intOf u).toNat)
    case atStart => exact ⟨m, (i, k), Nat.le_refl _, rfl, hin, HT1.out, HV.out⟩
    case round =>
      clear HV HT1 hm1 hin hi
      obtain ⟨j, q, hjm, rfl, hqn, hQ⟩ := hrel
      by_cases hj0 : 0 < j
      · obtain ⟨f, hf⟩ : ∃ f, j = f + 1 := ⟨j - 1, by omega⟩
        obtain ⟨T, hv⟩ := hQ.out
        rw [hf] at hv
        have hwf : IntKind.i64.wrap ((j : Int) - 1) = (f : Int) := by rw [IntKind.wrap_i64]; omega
        obtain ⟨t, ht⟩ : ∃ t, bkf ls q = t := ⟨_, rfl⟩
        have ht2 : up ls q.1 = t := ht
        have htn : t.1 < n := by rw [← ht2, ← hlen]; exact up_lt (by omega)
        have HF := Lib.hid (And.intro hv ht)
        have hfm : f ≤ m := by omega
        have hjf : f < j := by omega
        have hj0' : decide (0 < j) = true := decide_eq_true hj0
        clear hv ht ht2 hQ hf
        obtain ⟨T4, hT4⟩ : ∃ h : Two w wr q.1 q.2, True := ⟨T, trivial⟩
        clear T hT4
        go_upto_region 6 with fail
        obtain ⟨x4, hx4⟩ : ∃ x4, x4 = wr.alloc (.cells #[.int .i64 0, .int .i64 0] 24) := ⟨_, rfl⟩
        have hA : Below wr.heap.size wr x4 := by rw [hx4]; exact (Below.refl _ wr).alloc (Nat.le_refl _) _
        have hG := PosAt.new wr 0 0
        rw [← hx4] at hG ⊢
        have T5 := T4.on hA
        have hG0 := T4.size
        obtain ⟨g, hg⟩ : ∃ g, g = wr.heap.size := ⟨_, rfl⟩
        rw [← hg] at hG hG0 ⊢
        clear hx4 hg hA
        have T4 := T5
        clear T5
        have hw : IntKind.i64.wrap ((q.1 : Int) - 1) = (q.1 : Int) - 1 := by rw [IntKind.wrap_i64]; omega
        have htL : t = up ls q.1 := HF.out.2.symm
        have p0 := T4.pos.c0
        go_wp2
        clear hw p0
        go_loop [9] (fun u => ∃ k1 : Nat, k1 ≤ q.1 ∧ u = .int .i64 ((k1 : Int) - 1) ∧ Hid (t = up ls k1)) (fun u => (RowKit.intOf u + 1).toNat)
        case atStart => exact ⟨q.1, Nat.le_refl _, rfl, htL⟩
        case round =>
          clear htL
          obtain ⟨k1, hk1, rfl, hd⟩ := hrel
          by_cases hk0 : 0 < k1
          · obtain ⟨kk, rfl⟩ : ∃ kk, k1 = kk + 1 := ⟨k1 - 1, by omega⟩
            rw [show ((kk + 1 : Nat) : Int) - 1 = (kk : Int) by omega]
            obtain ⟨mm, hkm⟩ : ∃ mm, mm = kk + 1 := ⟨_, rfl⟩
            have hwm : IntKind.i64.wrap ((kk : Int) + 1) = (mm : Int) := by rw [IntKind.wrap_i64]; omega
            have hwk : IntKind.i64.wrap ((kk : Int) - 1) = (kk : Int) - 1 := by rw [IntKind.wrap_i64]; omega
            have dk : decide ((0 : Int) ≤ (kk : Int)) = true := decide_eq_true (by omega)
            have hmn : mm < n := by omega
            have hkn : kk < n := by omega
            have hkq : kk ≤ q.1 := by omega
            have HKM := Lib.hid hkm
            clear hkm hk0 hk1
            obtain ⟨b, o, rfl, hcx, hnc, _⟩ := HS.out.read kk (by omega)
            obtain ⟨b', o', he', hcy, _, _⟩ := HS.out.read mm (by omega)
            obtain ⟨rfl, rfl⟩ : b' = b ∧ o' = o := by
              injection he' with he'
              injection he' with h1 h2
              exact ⟨h1.symm, h2.symm⟩
            rw [← lineAt_get (ls := ls) (k := kk) (by omega)] at hcx
            rw [← lineAt_get (ls := ls) (k := mm) (by omega)] at hcy
            have c3 := cell_later T4.below hcx
            have c4 := cell_later T4.below hcy
            clear hcx hcy he' 
            by_cases hx : (lineAt ls kk).size = 0
            · have ex := empty_of_zero hx
              by_cases hy : (lineAt ls mm).size = 0
              · have ey := empty_of_zero hy
                have hp : paa ls kk = false := by unfold paa; rw [← HKM.out]; rw [decide_eq_true hx, decide_eq_false (fun hh => hh hy)]; rfl
                clear hx hy
                have HVd := Lib.hid (hd.out.trans (up_no hp))
                clear hp hd
                go_wp2
                go_round
                case rel => exact ⟨kk, by omega, rfl, HVd⟩
                case measure => simp [RowKit.intOf] <;> omega
              · have ey := empty_of_pos (x := lineAt ls mm) (by omega)
                have hp : paa ls kk = true := by unfold paa; rw [← HKM.out]; rw [decide_eq_true hx, decide_eq_true hy]; rfl
                clear hx hy
                have htk : t = (kk, 0) := (hd.out.trans (up_yes hp))
                clear hp hd
                have g0 := hG.c0
                have g1 := hG.c1
                have gz := fun k => frozen_of_row x4 g k _ _ hG
                go_upto_region 11 with fail
                clear g0 g1 gz c3 c4 ex ey hwm hwk
                obtain ⟨x5, hx5⟩ : ∃ x5, x5 = (x4.setCell ⟨g, 0, none⟩ (.int .i64 kk)).setCell ⟨g, 1, none⟩ (.int .i64 0) := ⟨_, rfl⟩
                have T6 : Two w x5 q.1 q.2 := by rw [hx5]; exact T4.setp hG0 _ _
                have hG : PosAt x5 g t.1 t.2 := by rw [hx5, htk]; exact So.set2 hG
                rw [← hx5]
                clear hx5 htk
                have p0 := T6.pos.c0
                have p1 := T6.pos.c1
                have g0 := hG.c0
                have g1 := hG.c1
                have hls := So.less5_any t.1 t.2 q.1 q.2 x5
                cases hlp : lp t q
                · rw [show So.lt t.1 t.2 q.1 q.2 = false from hlp] at hls
                  have hR : r = R.no := by rw [HR.out, ← HF.out.1]; exact congrArg jmp (itr_no (ok := (fun p t => lp t p)) HF.out.2 hlp)
                  have HN := Lib.hid hR
                  clear hlp hR
                  go_wp2_with fail
                  refine hls.mono ?_
                  rintro e w5 ⟨rfl, hb_w5⟩
                  have T5 := T6.on hb_w5
                  clear p0 p1 g0 g1 hls hb_w5
                  go_wp2_with fail
                  refine (none_any' w5).mono ?_
                  rintro e w6 ⟨rfl, hb_w6⟩
                  have T6 := T5.on hb_w6
                  clear hb_w6
                  have p0 := T6.pos.c0
                  have p1 := T6.pos.c1
                  have m0 := T6.mv.c0
                  have m1 := T6.mv.c1
                  have m2 := T6.mv.c2
                  have m3 := T6.mv.c3
                  have m4 := T6.mv.c4
                  have z := T6.mv.z
                  go_wp2
                  obtain ⟨hg, hb⟩ := T6.ret 0 0 0 0 false
                  exact ret_mv (r := R.no) (g := w.heap.size + 1) rfl rfl rfl rfl hg ⟨by rw [HN.out], hb⟩
                · rw [show So.lt t.1 t.2 q.1 q.2 = true from hlp] at hls
                  have HN := Lib.hid ((itr_yes (k := f) (ok := (fun p t => lp t p)) HF.out.2 hlp).symm.trans HF.out.1)
                  clear hlp
                  go_wp2_with fail
                  refine hls.mono ?_
                  rintro e w5 ⟨rfl, hb_w5⟩
                  have T5 := T6.on hb_w5
                  have hG5 := hG.below hb_w5 hG.lt
                  clear p0 p1 g0 g1 hls hb_w5
                  have p0 := T5.pos.c0
                  have p1 := T5.pos.c1
                  have pz := fun k => frozen_of_row w5 w.heap.size k _ _ T5.pos
                  have g0 := hG5.c0
                  have g1 := hG5.c1
                  go_wp2
                  go_roundw
                  case rel => exact ⟨f, t, by omega, rfl, htn, T5.move _ _, HN.out⟩
                  case measure => simp [RowKit.intOf] <;> omega
            · have ex := empty_of_pos (x := lineAt ls kk) (by omega)
              have hp : paa ls kk = false := by unfold paa; rw [← HKM.out]; rw [decide_eq_false hx]; rfl
              clear hx
              have HVd := Lib.hid (hd.out.trans (up_no hp))
              clear hp hd
              go_wp2
              go_round
              case rel => exact ⟨kk, by omega, rfl, HVd⟩
              case measure => simp [RowKit.intOf] <;> omega
          · obtain rfl : k1 = 0 := by omega
            have htk : t = (0, 0) := hd.out
            rw [show PosAt x4 g 0 0 = PosAt x4 g t.1 t.2 by rw [htk]; rfl] at hG
            clear hd htk
            go_upto_region 11 with fail
            have p0 := T4.pos.c0
            have p1 := T4.pos.c1
            have g0 := hG.c0
            have g1 := hG.c1
            have hls := So.less5_any t.1 t.2 q.1 q.2 x4
            cases hlp : lp t q
            · rw [show So.lt t.1 t.2 q.1 q.2 = false from hlp] at hls
              have hR : r = R.no := by rw [HR.out, ← HF.out.1]; exact congrArg jmp (itr_no (ok := (fun p t => lp t p)) HF.out.2 hlp)
              have HN := Lib.hid hR
              clear hlp hR
              go_wp2_with fail
              refine hls.mono ?_
              rintro e w5 ⟨rfl, hb_w5⟩
              have T5 := T4.on hb_w5
              clear p0 p1 g0 g1 hls hb_w5
              go_wp2_with fail
              refine (none_any' w5).mono ?_
              rintro e w6 ⟨rfl, hb_w6⟩
              have T6 := T5.on hb_w6
              clear hb_w6
              have p0 := T6.pos.c0
              have p1 := T6.pos.c1
              have m0 := T6.mv.c0
              have m1 := T6.mv.c1
              have m2 := T6.mv.c2
              have m3 := T6.mv.c3
              have m4 := T6.mv.c4
              have z := T6.mv.z
              go_wp2
              obtain ⟨hg, hb⟩ := T6.ret 0 0 0 0 false
              exact ret_mv (r := R.no) (g := w.heap.size + 1) rfl rfl rfl rfl hg ⟨by rw [HN.out], hb⟩
            · rw [show So.lt t.1 t.2 q.1 q.2 = true from hlp] at hls
              have HN := Lib.hid ((itr_yes (k := f) (ok := (fun p t => lp t p)) HF.out.2 hlp).symm.trans HF.out.1)
              clear hlp
              go_wp2_with fail
              refine hls.mono ?_
              rintro e w5 ⟨rfl, hb_w5⟩
              have T5 := T4.on hb_w5
              have hG5 := hG.below hb_w5 hG.lt
              clear p0 p1 g0 g1 hls hb_w5
              have p0 := T5.pos.c0
              have p1 := T5.pos.c1
              have pz := fun k => frozen_of_row w5 w.heap.size k _ _ T5.pos
              have g0 := hG5.c0
              have g1 := hG5.c1
              go_wp2
              go_roundw
              case rel => exact ⟨f, t, by omega, rfl, htn, T5.move _ _, HN.out⟩
              case measure => simp [RowKit.intOf] <;> omega
      · obtain rfl : j = 0 := by omega
        obtain ⟨T, hv⟩ := hQ.out
        have hR : r = ⟨q.1, q.2, 0, true, -1, true⟩ := by rw [HR.out, ← hv]; rfl
        have HN := Lib.hid hR
        have hj := jump5_any q.1 q.2 wr
        have p0 := T.pos.c0
        have p1 := T.pos.c1
        have m0 := T.mv.c0
        have m1 := T.mv.c1
        have m2 := T.mv.c2
        have m3 := T.mv.c3
        have m4 := T.mv.c4
        have z := T.mv.z
        clear hR hv hQ
        go_wp2_with fail
        refine hj.mono ?_
        rintro e w2 ⟨rfl, hb_w2⟩
        have T2 := T.on hb_w2
        clear p0 p1 m0 m1 m2 m3 m4 z hb_w2 hj T
        have p0 := T2.pos.c0
        have p1 := T2.pos.c1
        have m0 := T2.mv.c0
        have m1 := T2.mv.c1
        have m2 := T2.mv.c2
        have m3 := T2.mv.c3
        have m4 := T2.mv.c4
        have z := T2.mv.z
        go_wp2
        obtain ⟨hg, hb⟩ := T2.ret q.1 q.2 0 (-1) true
        exact ret_mv (r := ⟨q.1, q.2, 0, true, -1, true⟩) (g := w.heap.size + 1) rfl rfl rfl rfl hg ⟨by rw [HN.out], hb⟩
  · have hr : pbR ls l c nn = R.no := ifm_no hpk
    rw [hr]
    obtain ⟨X, hX⟩ : ∃ X, X = ((w.alloc (.cells #[.int .i64 l, .int .i64 c] 24)).alloc (.cells #[.int .i64 0, .int .i64 0, .int .i64 0, .bool false, .int .i64 0] 32)) := ⟨_, rfl⟩
    have hT : Two w X l c := by rw [hX]; exact Two.new w l c
    have HX := Lib.hid hX
    have h1 := may_any a n c' ls l c nn X (SrcV.below h hT.below)
    rw [decide_eq_false hpk] at h1
    have p0 := hT.pos.c0
    have p1 := hT.pos.c1
    have m0 := hT.mv.c0
    have m1 := hT.mv.c1
    have m2 := hT.mv.c2
    have m3 := hT.mv.c3
    have m4 := hT.mv.c4
    have z := hT.mv.z
    clear hr hX hpk h
    go_enter Try.func15, Try.ntmps15
    go_wp2_with fail
    rw [← HX.out]
    refine h1.mono ?_
    rintro e w1 ⟨rfl, hb_w1⟩
    have T1 := hT.on hb_w1
    clear p0 p1 m0 m1 m2 m3 m4 z h1
    have p0 := T1.pos.c0
    have p1 := T1.pos.c1
    have m0 := T1.mv.c0
    have m1 := T1.mv.c1
    have m2 := T1.mv.c2
    have m3 := T1.mv.c3
    have m4 := T1.mv.c4
    have z := T1.mv.z
    go_wp2_with fail
    refine (none_any' _).mono ?_
    rintro e w2 ⟨rfl, hb_w2⟩
    have T2 := T1.on hb_w2
    clear p0 p1 m0 m1 m2 m3 m4 z
    have p0 := T2.pos.c0
    have p1 := T2.pos.c1
    have m0 := T2.mv.c0
    have m1 := T2.mv.c1
    have m2 := T2.mv.c2
    have m3 := T2.mv.c3
    have m4 := T2.mv.c4
    have z := T2.mv.z
    go_wp2
    obtain ⟨hg, hb⟩ := T2.ret 0 0 0 0 false
    exact ret_mv (r := R.no) (g := w.heap.size + 1) rfl rfl rfl rfl hg ⟨rfl, hb⟩


end Go.Proofs.Ytpdbfdhfonfbeaa.Pa
