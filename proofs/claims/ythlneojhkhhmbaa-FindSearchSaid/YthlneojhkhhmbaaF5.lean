/-
  The document's Search.
-/
import Derived.Test.YthlneojhkhhmbaaFa
import Derived.Test.YthlneojhkhhmbaaFb
import Derived.Test.YthlneojhkhhmbaaMp
set_option linter.unusedVariables false
set_option linter.unusedSimpArgs false
set_option maxRecDepth 100000
namespace Go.Proofs.Ythlneojhkhhmbaa.Fd
open Go Go.RowKit Go.Proofs.Ythlneojhkhhmbaa.Vk Go.Proofs.Ythlneojhkhhmbaa.Str Go.Proofs.Ythlneojhkhhmbaa.Ln Go.Proofs.Ythlneojhkhhmbaa.Cl Go.Proofs.Ythlneojhkhhmbaa.Mv Go.Proofs.Ythlneojhkhhmbaa.Wd Go.Shelf
attribute [local go_sem] Oper.semAt_some

theorem two_onb {w X V : World} {l c : Int} (h : Two w X l c) (hb : Below X.heap.size X V) : Two w V l c := h.on hb
set_option maxHeartbeats 16000000 in
theorem search5_any (a : Option Addr) (n c' : Nat) (ls : List ByteArray) (l c : Int) (pt : ByteArray) (back : Bool) (nn : Int) (w : World) (h : Ss w a n c' ls) (hs : ∀ s ∈ ls, s.size ≤ 140737488355328) (hpz : pt.size ≤ 140737488355328) (htz : tz ls ≤ 900000) :
    Calls Try.prog 17 #[.slice a n c', .agg #[.int .i64 l, .int .i64 c], .string pt, .bool back, .int .i64 nn] w fun e w' => e = .returned (srR pt ls l c nn back).v ∧ Below w.heap.size w w' := by
  have hlen := h.length
  have hn := h.le63
  have hrw : srR pt ls l c nn back = ifm ls l c nn fun p k => jmp (srL (pls pt ls) p back k) := rfl
  rw [hrw]
  clear hrw
  obtain ⟨r, hrr⟩ : ∃ r, r = ifm ls l c nn fun p k => jmp (srL (pls pt ls) p back k) := ⟨_, rfl⟩
  rw [← hrr]
  have HR0 := Lib.hid hrr
  clear hrr
  obtain ⟨i0, hi0, hz0, hz1', hz2'⟩ := info_parts infoP
  obtain ⟨X, hX⟩ : ∃ X, X = ((w.alloc (.cells #[.int .i64 l, .int .i64 c] 27)).alloc (.cells #[.int .i64 0, .int .i64 0, .int .i64 0, .bool false, .int .i64 0] 40)) := ⟨_, rfl⟩
  have hT : Two w X l c := by rw [hX]; exact Two.new w l c
  have HX := Lib.hid hX
  have h1 := all5_any a n c' ls pt X (SrcV.below h hT.below) hs hpz htz
  have HS := Lib.hid (SrcV.below h hT.below)
  clear hX h
  go_enter Try.func17, Try.ntmps17
  go_wp2_with fail
  rw [← HX.out]
  refine h1.mono ?_
  rintro e w1 ⟨b1, c1, rfl, hx, hb_w1⟩
  have T1 := hT.on hb_w1
  have h2 := may_any a n c' ls l c nn w1 (SrcV.below HS.out hb_w1)
  have hsort := pls_sorted pt ls
  have hxl : (pls pt ls).length ≤ 900000 := Nat.le_trans (pls_tz pt ls) htz
  have hrr := HR0.out
  clear HR0
  generalize pls pt ls = xs at *
  obtain ⟨L, hL⟩ : ∃ L, L = xs.length := ⟨_, rfl⟩
  rw [← hL] at hx hxl ⊢
  have HL := Lib.hid hL
  have HRR := Lib.hid hrr
  clear h1 hL hrr
  have p0 := T1.pos.c0
  have p1 := T1.pos.c1
  by_cases hpk : Plc ls l c ∧ 1 ≤ nn
  rotate_left
  · have hrn := Lib.hid (show r = R.no by rw [HRR.out]; exact ifm_no hpk)
    rw [decide_eq_false hpk] at h2
    clear hpk hx
    go_wp2_with fail
    refine (h2).mono ?_
    rintro e w2 ⟨rfl, hb2⟩
    have T2 := T1.on hb2
    clear p0 p1 h2 hb2 hb_w1
    have h3 := none_any w2
    go_wp2_with fail
    refine (h3).mono ?_
    rintro e w3 ⟨rfl, hb3⟩
    have T3 := T2.on hb3
    clear h3 hb3
    have m0 := T3.mv.c0
    have m1 := T3.mv.c1
    have m2 := T3.mv.c2
    have m3 := T3.mv.c3
    have m4 := T3.mv.c4
    have z := T3.mv.z
    go_wp2
    rw [hrn.out]
    obtain ⟨hg, hb⟩ := T3.ret 0 0 0 0 false
    exact ret_mv (r := R.no) (g := w.heap.size + 1) rfl rfl rfl rfl hg ⟨rfl, hb⟩
  obtain ⟨hp, hk⟩ := hpk
  obtain ⟨i, k, rfl, rfl, hi, hkk⟩ := hp.nat
  obtain ⟨m, rfl⟩ : ∃ m : Nat, nn = m := ⟨nn.toNat, by omega⟩
  have hm1 : 1 ≤ m := by omega
  have hrr := HRR.out
  rw [ifm_yes hp hm1] at hrr
  have hL := HL.out
  rw [decide_eq_true ⟨hp, hk⟩] at h2
  by_cases hL0 : L = 0
  · have hrn := Lib.hid (show r = R.no by rw [hrr, srL_no (by omega)]; rfl)
    clear hrr hL hkk
    subst hL0
    clear hx hp hk hi hm1 HL
    go_wp2_with fail
    refine (h2).mono ?_
    rintro e w2 ⟨rfl, hb2⟩
    have T2 := T1.on hb2
    clear p0 p1 h2 hb2 hb_w1
    have h3 := none_any w2
    go_wp2_with fail
    refine (h3).mono ?_
    rintro e w3 ⟨rfl, hb3⟩
    have T3 := T2.on hb3
    clear h3 hb3
    have m0 := T3.mv.c0
    have m1 := T3.mv.c1
    have m2 := T3.mv.c2
    have m3 := T3.mv.c3
    have m4 := T3.mv.c4
    have z := T3.mv.z
    go_wp2
    rw [hrn.out]
    obtain ⟨hg, hb⟩ := T3.ret 0 0 0 0 false
    exact ret_mv (r := R.no) (g := w.heap.size + 1) rfl rfl rfl rfl hg ⟨rfl, hb⟩
  have hzL : ((L : Int) == 0) = false := by rw [beq_eq_false_iff_ne]; omega
  obtain ⟨K, hKm⟩ : ∃ K, K = min m 1073741824 := ⟨_, rfl⟩
  obtain ⟨K1, hK1⟩ : ∃ K1, K1 = K - 1 := ⟨_, rfl⟩
  obtain ⟨T, hT⟩ : ∃ T, T = K1 % L := ⟨_, rfl⟩
  have hTl : T < L := by rw [hT]; exact Nat.mod_lt _ (by omega)
  rw [srL_yes (by omega), ← hL, ← hKm] at hrr
  have hrd := rnd_at hsort (i, k) back K (by omega)
  rw [← hL, ← hK1, ← hT] at hrd
  rw [← hrd] at hrr
  obtain ⟨rn, hrn⟩ : ∃ rn, rn = rnd xs (i, k) back := ⟨_, rfl⟩
  have hrl := rnd_length xs hsort (i, k) back
  rw [← hrn] at hrr hrl
  obtain ⟨y, hy⟩ : ∃ y, y = rn.getD T (0, 0) := ⟨_, rfl⟩
  have hgT : rn[T]'(by omega) = y := by rw [hy, List.getD_eq_getElem?_getD, List.getElem?_eq_getElem (by omega)]; rfl
  rw [← hy] at hrr
  have HR := Lib.hid hrr
  have HKK := Lib.hid (And.intro hKm (And.intro hK1 (And.intro hT (And.intro hrn hrl))))
  have HGT := Lib.hid (show ∃ h : T < rn.length, rn[T]'h = y from ⟨by omega, hgT⟩)
  have HQ := Lib.hid (And.intro hi (And.intro hkk hm1))
  clear hrr hrd hy hp hk hL0 hKm hK1 hT hrn hrl hgT hL hi hkk hm1
  go_wp2_with fail
  refine (h2).mono ?_
  rintro e w2 ⟨rfl, hb2⟩
  have T2 := T1.on hb2
  have hx2 := Ps.below hx hb2
  have hx1 := below_on hb_w1 hb2
  have h3 := behind5_any b1 L c1 xs (i, k) w2 hx2 (by omega)
  clear p0 p1 h2 hb2
  have p0 := T2.pos.c0
  have p1 := T2.pos.c1
  go_wp2_with fail
  refine (h3).mono ?_
  rintro e w3 ⟨b3, c3, N3, rfl, ho⟩
  have T3 := T2.on ho.2.2
  have hx3 := Ps.below hx2 ho.2.2
  clear h3 p0 p1
  have HP := Lib.hid T2.pos
  cases back
  · have HW0 := Lib.hid ho
    obtain ⟨b0, hb0⟩ : ∃ b, b = b3 := ⟨_, rfl⟩
    obtain ⟨c0, hc0⟩ : ∃ c, c = c3 := ⟨_, rfl⟩
    obtain ⟨N0, hN0⟩ : ∃ N, N = N3 := ⟨_, rfl⟩
    rw [← hb0, ← hc0, ← hN0] at HW0 ⊢
    clear ho T3 hx3 hb0 hc0 hN0 hT T1 hb_w1 hx hx1
    go_wp2
    go_loopw [13, 14] (fun u v wr => ∃ (q N : Nat) (b : Option Addr) (cc : Nat), q ≤ L ∧ u = .slice b N cc ∧ v = .int .i64 q ∧ Hid (Wd.Own w2 (aft xs (i, k) ++ naf (xs.take q) (i, k)) N b cc wr)) (fun u v _ => L - (RowKit.intOf v).toNat)
    case atStart => exact ⟨0, N0, b0, c0, Nat.zero_le _, rfl, rfl, by rw [List.take_zero]; unfold naf; rw [List.filter_nil, List.append_nil]; exact HW0.out⟩
    case round =>
      obtain ⟨q, N, b, cc, hqn, rfl, rfl, HW⟩ := hrel
      clear HW0
      by_cases hk : q < L
      · have hL := HL.out
        obtain ⟨bx, ox, rfl, z0, z1, hnc⟩ := hx2.read q (by omega)
        have htk : xs.take (q + 1) = xs.take q ++ [xs[q]'(by omega)] := by
          exact List.take_succ_eq_append_getElem (by omega)
        obtain ⟨x, hxx⟩ : ∃ x, x = xs[q]'(by omega) := ⟨_, rfl⟩
        rw [← hxx] at z0 z1 htk
        have hLb : N ≤ 2000000 := by
          have h5 := HW.out.1
          have h6 := List.length_filter_le (fun y => lp (i, k) y) xs
          have h7 := List.length_filter_le (fun y => lp y (i, k)) xs
          have h8 := List.length_filter_le (fun y => !lp (i, k) y) (xs.take q)
          have h9 := List.length_filter_le (fun y => !lp y (i, k)) (xs.drop (L - q))
          rw [List.length_append] at h5
          try rw [List.length_reverse, List.length_reverse] at h5
          rw [List.length_drop] at h9
          have h10 := List.length_take_le q xs
          unfold aft naf at h5
          omega
        have g0 := cell_later HW.out.2.2 z0
        have g1 := cell_later HW.out.2.2 z1
        obtain ⟨y3, hy3⟩ : ∃ y, y = wr.alloc (.cells #[.int .i64 x.1, .int .i64 x.2] 27) := ⟨_, rfl⟩
        have hby : Below wr.heap.size wr y3 := by rw [hy3]; exact (Below.refl _ wr).alloc (Nat.le_refl _) _
        have hqy : PosAt y3 wr.heap.size x.1 x.2 := by rw [hy3]; exact PosAt.new wr _ _
        have hWy := HW.out.below hby
        have hpy := HP.out.below hWy.2.2 HP.out.lt
        have hls := So.less5_any i k x.1 x.2 y3
        have s0 := hqy.c0
        have s1 := hqy.c1
        have s2 := hpy.c0
        have s3 := hpy.c1
        have HXX := Lib.hid (And.intro htk trivial)
        have HWY := Lib.hid (And.intro hWy hqy)
        clear htk hxx z0 z1 hby hqy hWy hpy
        subst hy3
        clear hL 
        cases hlp : lp (i, k) x
        · rw [show So.lt i k x.1 x.2 = false from hlp] at hls
          have HN : Hid ((aft xs (i, k) ++ naf (xs.take (q + 1)) (i, k)) = (aft xs (i, k) ++ naf (xs.take q) (i, k)) ++ [x]) := by
            rw [HXX.out.1]; unfold naf; rw [List.filter_append, List.filter_cons_of_pos (p := fun y => !lp (i, k) y) (by simp [hlp]), List.append_assoc]; rfl
          clear hlp
          go_wp2_with fail
          refine hls.mono ?_
          rintro e V5 ⟨rfl, hb5⟩
          clear hls s0 s1 s2 s3 g0 g1
          have q0 := (HWY.out.2.below hb5 HWY.out.2.lt).c0
          have q1 := (HWY.out.2.below hb5 HWY.out.2.lt).c1
          have HW : Hid (Wd.Own w2 (aft xs (i, k) ++ naf (xs.take q) (i, k)) N b cc V5) := HWY.out.1.below hb5
          clear hb5
          go_wp2_with (at_builtin; go_must (refine append_srcv _ rfl _ _ 29 rfl w2.heap.size EP i0 (.agg #[.int .i64 0, .int .i64 0]) 2 16 underP hi0 hz0 hz1' hz2' rfl (by decide) (.slice b N cc) _ _ rfl (HW.out.built _) (.slice (some ⟨V5.heap.size, 0, none⟩) 1 1) 1 [.int .i64 (x.1 : Int), .int .i64 (x.2 : Int)] rfl (SrcV.pos V5 (x.1 : Int) (x.2 : Int)) (by simp only [maxLen]; omega) (by omega) (by have := HW.out.2.2.size; simp; omega) ?_); intro ob oc V hown hg hnr; have HO := Lib.hid (HW.out.app (x := (x.1, x.2)) hown hg); clear hown hg hnr)
          go_roundw
          case rel => exact ⟨q + 1, N + 1, ob, oc, by omega, rfl, by go_num, by rw [HN.out]; exact HO.out⟩
          case measure => simp [RowKit.intOf]; omega
        · rw [show So.lt i k x.1 x.2 = true from hlp] at hls
          have HN : Hid ((aft xs (i, k) ++ naf (xs.take (q + 1)) (i, k)) = (aft xs (i, k) ++ naf (xs.take q) (i, k))) := by
            rw [HXX.out.1]; unfold naf; rw [List.filter_append, List.filter_cons_of_neg (p := fun y => !lp (i, k) y) (by simp [hlp])]; simp [Hid]
          clear hlp
          go_wp2_with fail
          refine hls.mono ?_
          rintro e V5 ⟨rfl, hb5⟩
          clear hls s0 s1 s2 s3 g0 g1
          have HW : Hid (Wd.Own w2 (aft xs (i, k) ++ naf (xs.take q) (i, k)) N b cc V5) := HWY.out.1.below hb5
          clear hb5
          go_wp2
          go_roundw
          case rel => exact ⟨q + 1, N, b, cc, by omega, rfl, by go_num, by rw [HN.out]; exact HW⟩
          case measure => simp [RowKit.intOf]; omega
      · obtain rfl : L = q := by omega
        obtain ⟨hKm, hK1, hT, hrn, hrl⟩ := HKK.out
        obtain ⟨hTr, hgT⟩ := HGT.out
        have hL := HL.out
        unfold rnd at hrn
        rw [if_neg (by simp)] at hrn
        have hq := HW.out
        rw [List.take_of_length_le (by omega)] at hq
        rw [← hrn] at hq
        obtain rfl : L = N := by have := hq.1; omega
        have hps2 := hq.ps
        have HT8 := Lib.hid (T2.on hq.2.2)
        obtain ⟨bx, ox, rfl, z0, z1, hnc⟩ := hps2.read T (by omega)
        rw [hgT] at z0 z1
        have hcp := capped_any m wr
        rw [show min (m : Int) 1073741824 = (K : Int) by omega] at hcp
        have hmm : (K1 : Int) % (L : Int) = (T : Int) := by rw [hT]; omega
        have hmm2 : (K1 : Int).tmod (L : Int) = (T : Int) := by rw [Int.tmod_eq_emod_of_nonneg (by omega)]; exact hmm
        have hz1' : ¬ L = 0 := by omega
        have hm1 := HQ.out.2.2
        have hwk : IntKind.i64.wrap ((K : Int) - 1) = (K1 : Int) := by rw [IntKind.wrap_i64]; omega
        have hj := jump5_any y.1 y.2 wr
        clear hq hps2 HW HP hgT hTr hT hrn hrl hx2 hK1 hKm hL hm1
        go_wp2_with fail
        refine hcp.mono ?_
        rintro e w' ⟨rfl, rfl⟩
        clear hcp
        go_wp2_with fail
        refine hj.mono ?_
        rintro e w9 ⟨rfl, hb9⟩
        have T9 := HT8.out.on hb9
        clear hj z0 z1 hb9
        have m0 := T9.mv.c0
        have m1 := T9.mv.c1
        have m2 := T9.mv.c2
        have m3 := T9.mv.c3
        have m4 := T9.mv.c4
        have z := T9.mv.z
        go_wp2
        obtain ⟨hg, hb⟩ := T9.ret y.1 y.2 0 (-1) true
        exact ret_mv (r := ⟨y.1, y.2, 0, true, -1, true⟩) (g := w.heap.size + 1) rfl rfl rfl rfl hg ⟨by rw [HR.out]; rfl, hb⟩
  · have h4 := ahead5_any b1 L c1 xs (i, k) w3 hx3 (by omega)
    have p0 := T3.pos.c0
    have p1 := T3.pos.c1
    go_wp2_with fail
    refine (h4).mono ?_
    rintro e w4 ⟨b0, c0, N0, rfl, ho4⟩
    have HW0 := Lib.hid (own_on ho4 ho.2.2)
    clear ho4 ho T3 hx3 hT T1 hb_w1 hx hx1 p0 p1 h4
    go_wp2
    go_loopw [13, 14] (fun u v wr => ∃ (q N : Nat) (b : Option Addr) (cc : Nat), q ≤ L ∧ u = .slice b N cc ∧ v = .int .i64 q ∧ Hid (Wd.Own w2 ((bef xs (i, k)).reverse ++ (atf (xs.drop (L - q)) (i, k)).reverse) N b cc wr)) (fun u v _ => L - (RowKit.intOf v).toNat)
    case atStart => exact ⟨0, N0, b0, c0, Nat.zero_le _, rfl, rfl, by rw [Nat.sub_zero, List.drop_eq_nil_of_le (by have := HL.out; omega)]; unfold atf; rw [List.filter_nil, List.reverse_nil, List.append_nil]; exact HW0.out⟩
    case round =>
      obtain ⟨q, N, b, cc, hqn, rfl, rfl, HW⟩ := hrel
      clear HW0
      by_cases hk : q < L
      · have hL := HL.out
        obtain ⟨t, ht⟩ : ∃ t, t = L - 1 - q := ⟨_, rfl⟩
        obtain ⟨L1, hL1⟩ : ∃ L1, L1 = L - 1 := ⟨_, rfl⟩
        have hw1 : IntKind.i64.wrap ((L : Int) - 1) = (L1 : Int) := by rw [IntKind.wrap_i64]; omega
        have hw2 : IntKind.i64.wrap ((L1 : Int) - (q : Int)) = (t : Int) := by rw [IntKind.wrap_i64]; omega
        have htL : t < L := by omega
        obtain ⟨bx, ox, rfl, z0, z1, hnc⟩ := hx2.read t (by omega)
        have htk : xs.drop (L - (q + 1)) = xs[t]'(by omega) :: xs.drop (L - q) := by
          rw [show L - (q + 1) = t by omega, show L - q = t + 1 by omega]
          exact List.drop_eq_getElem_cons (by omega)
        obtain ⟨x, hxx⟩ : ∃ x, x = xs[t]'(by omega) := ⟨_, rfl⟩
        rw [← hxx] at z0 z1 htk
        have hLb : N ≤ 2000000 := by
          have h5 := HW.out.1
          have h6 := List.length_filter_le (fun y => lp (i, k) y) xs
          have h7 := List.length_filter_le (fun y => lp y (i, k)) xs
          have h8 := List.length_filter_le (fun y => !lp (i, k) y) (xs.take q)
          have h9 := List.length_filter_le (fun y => !lp y (i, k)) (xs.drop (L - q))
          rw [List.length_append] at h5
          try rw [List.length_reverse, List.length_reverse] at h5
          rw [List.length_drop] at h9
          have h10 := List.length_take_le q xs
          unfold bef atf at h5
          omega
        have g0 := cell_later HW.out.2.2 z0
        have g1 := cell_later HW.out.2.2 z1
        obtain ⟨y3, hy3⟩ : ∃ y, y = wr.alloc (.cells #[.int .i64 x.1, .int .i64 x.2] 27) := ⟨_, rfl⟩
        have hby : Below wr.heap.size wr y3 := by rw [hy3]; exact (Below.refl _ wr).alloc (Nat.le_refl _) _
        have hqy : PosAt y3 wr.heap.size x.1 x.2 := by rw [hy3]; exact PosAt.new wr _ _
        have hWy := HW.out.below hby
        have hpy := HP.out.below hWy.2.2 HP.out.lt
        have hls := So.less5_any x.1 x.2 i k y3
        have s0 := hqy.c0
        have s1 := hqy.c1
        have s2 := hpy.c0
        have s3 := hpy.c1
        have HXX := Lib.hid (And.intro htk trivial)
        have HWY := Lib.hid (And.intro hWy hqy)
        clear htk hxx z0 z1 hby hqy hWy hpy
        subst hy3
        clear hL ht hL1 
        cases hlp : lp x (i, k)
        · rw [show So.lt x.1 x.2 i k = false from hlp] at hls
          have HN : Hid (((bef xs (i, k)).reverse ++ (atf (xs.drop (L - (q + 1))) (i, k)).reverse) = ((bef xs (i, k)).reverse ++ (atf (xs.drop (L - q)) (i, k)).reverse) ++ [x]) := by
            rw [HXX.out.1]; unfold atf; rw [List.filter_cons_of_pos (p := fun y => !lp y (i, k)) (by simp [hlp]), List.reverse_cons, List.append_assoc]; rfl
          clear hlp
          go_wp2_with fail
          refine hls.mono ?_
          rintro e V5 ⟨rfl, hb5⟩
          clear hls s0 s1 s2 s3 g0 g1
          have q0 := (HWY.out.2.below hb5 HWY.out.2.lt).c0
          have q1 := (HWY.out.2.below hb5 HWY.out.2.lt).c1
          have HW : Hid (Wd.Own w2 ((bef xs (i, k)).reverse ++ (atf (xs.drop (L - q)) (i, k)).reverse) N b cc V5) := HWY.out.1.below hb5
          clear hb5
          go_wp2_with (at_builtin; go_must (refine append_srcv _ rfl _ _ 29 rfl w2.heap.size EP i0 (.agg #[.int .i64 0, .int .i64 0]) 2 16 underP hi0 hz0 hz1' hz2' rfl (by decide) (.slice b N cc) _ _ rfl (HW.out.built _) (.slice (some ⟨V5.heap.size, 0, none⟩) 1 1) 1 [.int .i64 (x.1 : Int), .int .i64 (x.2 : Int)] rfl (SrcV.pos V5 (x.1 : Int) (x.2 : Int)) (by simp only [maxLen]; omega) (by omega) (by have := HW.out.2.2.size; simp; omega) ?_); intro ob oc V hown hg hnr; have HO := Lib.hid (HW.out.app (x := (x.1, x.2)) hown hg); clear hown hg hnr)
          go_roundw
          case rel => exact ⟨q + 1, N + 1, ob, oc, by omega, rfl, by go_num, by rw [HN.out]; exact HO.out⟩
          case measure => simp [RowKit.intOf]; omega
        · rw [show So.lt x.1 x.2 i k = true from hlp] at hls
          have HN : Hid (((bef xs (i, k)).reverse ++ (atf (xs.drop (L - (q + 1))) (i, k)).reverse) = ((bef xs (i, k)).reverse ++ (atf (xs.drop (L - q)) (i, k)).reverse)) := by
            rw [HXX.out.1]; unfold atf; rw [List.filter_cons_of_neg (p := fun y => !lp y (i, k)) (by simp [hlp])]; rfl
          clear hlp
          go_wp2_with fail
          refine hls.mono ?_
          rintro e V5 ⟨rfl, hb5⟩
          clear hls s0 s1 s2 s3 g0 g1
          have HW : Hid (Wd.Own w2 ((bef xs (i, k)).reverse ++ (atf (xs.drop (L - q)) (i, k)).reverse) N b cc V5) := HWY.out.1.below hb5
          clear hb5
          go_wp2
          go_roundw
          case rel => exact ⟨q + 1, N, b, cc, by omega, rfl, by go_num, by rw [HN.out]; exact HW⟩
          case measure => simp [RowKit.intOf]; omega
      · obtain rfl : L = q := by omega
        obtain ⟨hKm, hK1, hT, hrn, hrl⟩ := HKK.out
        obtain ⟨hTr, hgT⟩ := HGT.out
        have hL := HL.out
        unfold rnd at hrn
        rw [if_pos rfl] at hrn
        have hq := HW.out
        rw [Nat.sub_self, List.drop_zero] at hq
        rw [← hrn] at hq
        obtain rfl : L = N := by have := hq.1; omega
        have hps2 := hq.ps
        have HT8 := Lib.hid (T2.on hq.2.2)
        obtain ⟨bx, ox, rfl, z0, z1, hnc⟩ := hps2.read T (by omega)
        rw [hgT] at z0 z1
        have hcp := capped_any m wr
        rw [show min (m : Int) 1073741824 = (K : Int) by omega] at hcp
        have hmm : (K1 : Int) % (L : Int) = (T : Int) := by rw [hT]; omega
        have hmm2 : (K1 : Int).tmod (L : Int) = (T : Int) := by rw [Int.tmod_eq_emod_of_nonneg (by omega)]; exact hmm
        have hz1' : ¬ L = 0 := by omega
        have hm1 := HQ.out.2.2
        have hwk : IntKind.i64.wrap ((K : Int) - 1) = (K1 : Int) := by rw [IntKind.wrap_i64]; omega
        have hj := jump5_any y.1 y.2 wr
        clear hq hps2 HW HP hgT hTr hT hrn hrl hx2 hK1 hKm hL hm1
        go_wp2_with fail
        refine hcp.mono ?_
        rintro e w' ⟨rfl, rfl⟩
        clear hcp
        go_wp2_with fail
        refine hj.mono ?_
        rintro e w9 ⟨rfl, hb9⟩
        have T9 := HT8.out.on hb9
        clear hj z0 z1 hb9
        have m0 := T9.mv.c0
        have m1 := T9.mv.c1
        have m2 := T9.mv.c2
        have m3 := T9.mv.c3
        have m4 := T9.mv.c4
        have z := T9.mv.z
        go_wp2
        obtain ⟨hg, hb⟩ := T9.ret y.1 y.2 0 (-1) true
        exact ret_mv (r := ⟨y.1, y.2, 0, true, -1, true⟩) (g := w.heap.size + 1) rfl rfl rfl rfl hg ⟨by rw [HR.out]; rfl, hb⟩
end Go.Proofs.Ythlneojhkhhmbaa.Fd
