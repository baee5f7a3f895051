/-
  The document's Sentence.
-/
import Derived.Test.YtnngcminomooeaaXv
import Derived.Test.YtnngcminomooeaaOd
import Derived.Test.YtnngcminomooeaaGs
set_option linter.unusedVariables false
set_option linter.unusedSimpArgs false
set_option maxRecDepth 100000
namespace Go.Proofs.Ytnngcminomooeaa.Po
open Go Go.RowKit Go.Proofs.Ytnngcminomooeaa.Vk Go.Proofs.Ytnngcminomooeaa.Str Go.Proofs.Ytnngcminomooeaa.Ln Go.Proofs.Ytnngcminomooeaa.Cl Go.Proofs.Ytnngcminomooeaa.Mv Go.Proofs.Ytnngcminomooeaa.Wd Go.Proofs.Ytnngcminomooeaa.Pa
open Go.Proofs.Ytnngcminomooeaa.So (enr enr_cut enr_length lcell lcell_length lcell_get cells cells_snoc cells_step Cell)
open Go.Proofs.Ytnngcminomooeaa.Wo (On rgv Vb RgAt putR putR_below ret_rb on_any char_any)
attribute [local go_sem] Oper.semAt_some

/-- What stands between the rounds: the first two variables, the two ends, the end so far. -/
structure Dz (w : World) (i k : Int) (GA GB GE : Nat) (a b e : P2) (V : World) : Prop where
  vb : Vb w V i k
  pa : PosAt V GA a.1 a.2
  pb : PosAt V GB b.1 b.2
  pe : PosAt V GE e.1 e.2
theorem Dz.on {w V V' : World} {i k : Int} {GA GB GE : Nat} {a b e : P2} (h : Dz w i k GA GB GE a b e V) (hb : Below V.heap.size V V') : Dz w i k GA GB GE a b e V' :=
  ⟨h.vb.on hb, h.pa.below hb h.pa.lt, h.pb.below hb h.pb.lt, h.pe.below hb h.pe.lt⟩
theorem vb_setP {w V : World} {i k : Int} (h : Vb w V i k) {g : Nat} (hg : w.heap.size + 2 ≤ g) (l c : Int) : Vb w (setP V g l c) i k :=
  ⟨(h.below.setCell (p := ⟨g, 0, none⟩) (by simp; omega) _).setCell (p := ⟨g, 1, none⟩) (by simp; omega) _, by have := (setP_fr V g l c).size; have := h.size; omega, (setP_other (by omega)).trans h.pos, (setP_other (by omega)).trans h.rg⟩
theorem Dz.setE {w V : World} {i k : Int} {GA GB GE : Nat} {a b e : P2} (h : Dz w i k GA GB GE a b e V) (hw : w.heap.size + 2 ≤ GE) (hA : GA ≠ GE) (hB : GB ≠ GE) (l c : Nat) : Dz w i k GA GB GE a b (l, c) (setP V GE l c) :=
  ⟨vb_setP h.vb hw _ _, (setP_other hA).trans h.pa, (setP_other hB).trans h.pb, setP_at h.pe _ _⟩
theorem s_ends {ls : List ByteArray} {p : P2} (h : 0 < sN (sen ls) p) : (sfr (sen ls) p).1 ≤ (sto ls (sen ls) p).1 ∧ (sto ls (sen ls) p).1 < ls.length := by
  have hl := sN_le (S := sen ls) (p := p)
  have h1 := sen_mem (List.getElem_mem (l := sen ls) (n := sN (sen ls) p - 1) (by omega))
  rw [sfr_at h]
  by_cases h2 : sN (sen ls) p < (sen ls).length
  · rw [sto_at h2]
    have h3 := List.pairwise_iff_getElem.1 (sen_sorted ls) (sN (sen ls) p - 1) (sN (sen ls) p) (by omega) h2 (by omega)
    have h4 := sen_mem (List.getElem_mem (l := sen ls) (n := sN (sen ls) p) h2)
    have := lp_iff.1 h3
    exact ⟨by omega, h4.1⟩
  · rw [sto_end h2]
    show _ ≤ ls.length - 1 ∧ ls.length - 1 < ls.length
    omega
theorem get2 {L : List P2} {j : Nat} (h : j < L.length) : L.getD j (0, 0) = L[j] := by rw [List.getD_eq_getElem?_getD, List.getElem?_eq_getElem h]; rfl
theorem sN_get {S : List P2} {p : P2} (hs : S.Pairwise fun a b => lp a b = true) (i : Nat) (h : i < S.length) : lp p (S.getD i (0, 0)) = decide (sN S p ≤ i) := by rw [get2 h]; exact sN_at hs i h
theorem sfr_get {S : List P2} {p : P2} (h : 0 < sN S p) : sfr S p = S.getD (sN S p - 1) (0, 0) := by rw [get2 (by have := sN_le (S := S) (p := p); omega)]; exact sfr_at h
theorem sto_get {S : List P2} {p : P2} {ls : List ByteArray} (h : sN S p < S.length) : sto ls S p = S.getD (sN S p) (0, 0) := by rw [get2 h]; exact sto_at h
theorem cells_line (ls : List ByteArray) (Y : Nat) : cells (enr ls 0 (Y + 1)) = cells (enr ls 0 Y) ++ lcell (Y, lineAt ls Y) := by
  have h := (enr_cut ls 0 (Y + 1) Y (by omega)).2
  rw [Nat.zero_add] at h
  rw [h, cells_snoc]

set_option maxHeartbeats 16000000 in
theorem sentence15_any (a : Option Addr) (n c' : Nat) (ls : List ByteArray) (l c : Int) (ar : Bool) (w : World) (h : Ss w a n c' ls) (hs : ∀ s ∈ ls, s.size ≤ 140737488355328) (hn6 : n ≤ 1000000) (htz : tz ls ≤ 900000) :
    Calls Try.prog 19 #[.slice a n c', .agg #[.int .i64 l, .int .i64 c], .bool ar] w fun e w' => e = .returned (snW (snQ ls l c ar)) ∧ Below w.heap.size w w' := by
  have hlen := h.length
  obtain ⟨X, hX⟩ : ∃ X, X = (w.alloc (.cells #[.int .i64 l, .int .i64 c] 36)).alloc (.cells #[.int .i64 0, .int .i64 0, .int .i64 0, .int .i64 0, .int .i64 0] 42) := ⟨_, rfl⟩
  have hT : Vb w X l c := by rw [hX]; exact Vb.new w l c
  have hin := on_any a n c' ls l c 1 X (SrcV.below h hT.below)
  have HX := Lib.hid hX
  have p0 := hT.pos.c0
  have p1 := hT.pos.c1
  by_cases hO : On ls l c
  rotate_left
  · rw [snQ_no hO]
    rw [decide_eq_false (fun hh => hO hh.1)] at hin
    clear hX h hO
    go_enter Try.func19, Try.ntmps19
    go_wp2_with fail
    rw [← HX.out]
    refine hin.mono ?_
    rintro e w1 ⟨rfl, hb1⟩
    have T1 := hT.on hb1
    clear hin p0 p1 hT hb1
    have r0 := T1.rg.c0
    have r1' := T1.rg.c1
    have r2' := T1.rg.c2
    have r3' := T1.rg.c3
    have r4 := T1.rg.c4
    have z := T1.rg.z
    go_wp2
    obtain ⟨hg, hb⟩ := T1.ret 0 0 0 0 0
    exact ret_rb (g := w.heap.size + 1) rfl rfl rfl rfl hg ⟨rfl, hb⟩
  rw [decide_eq_true (p := On ls l c ∧ (1 : Int) ≤ 1) ⟨hO, by omega⟩] at hin
  obtain ⟨i, k, rfl, rfl, hi, hk⟩ := hO.nat
  rw [snQ_yes hO]
  have hn0 : 0 < n := by omega
  have HS := Lib.hid h
  unfold snA
  have hsa := fun W (hW : Below w.heap.size w W) => sentences5_any a n c' ls W (SrcV.below h hW) hs htz
  have hsl : (sen ls).length ≤ 900000 := Nat.le_trans (sen_tz _) htz
  have hmle := sN_le (S := sen ls) (p := (i, k))
  have hmat := sN_get (p := (i, k)) (sen_sorted ls)
  have hok := sok_iff (S := sen ls) (p := (i, k))
  have hends := s_ends (ls := ls) (p := (i, k))
  have hfr := sfr_get (S := sen ls) (p := (i, k))
  have hto := sto_get (S := sen ls) (p := (i, k)) (ls := ls)
  have hte := sto_end (S := sen ls) (p := (i, k)) (ls := ls)
  obtain ⟨r1, hr1⟩ : ∃ r, r = sfr (sen ls) (i, k) := ⟨_, rfl⟩
  obtain ⟨r2, hr2⟩ : ∃ r, r = sto ls (sen ls) (i, k) := ⟨_, rfl⟩
  obtain ⟨r3, hr3⟩ : ∃ r, r = sok (sen ls) (i, k) := ⟨_, rfl⟩
  simp only [← hr1, ← hr2, ← hr3] at hok hends hfr hto hte ⊢
  obtain ⟨v, hv⟩ : ∃ v, v = snW (if r3 = true then (if r1 = (if ar = true then r2 else wend ls r1 r2) then none else some (r1, if ar = true then r2 else wend ls r1 r2)) else none) := ⟨_, rfl⟩
  rw [← hv]
  have HV := Lib.hid hv
  obtain ⟨m, hm⟩ : ∃ m, m = sN (sen ls) (i, k) := ⟨_, rfl⟩
  simp only [← hm] at hok hends hfr hto hte hmat hmle
  obtain ⟨S, hS⟩ : ∃ S, S = sen ls := ⟨_, rfl⟩
  simp only [← hS] at hmle hmat hfr hto hte hsa hsl
  -- the last line
  obtain ⟨g0, o0, rfl, hcx, hnc, _⟩ := h.read (n - 1) (by omega)
  rw [← lineAt_get (ls := ls) (k := n - 1) (by omega)] at hcx
  obtain ⟨N1, hN1⟩ : ∃ N1, N1 = n - 1 := ⟨_, rfl⟩
  have hst6 := hs (lineAt ls N1) (by rw [lineAt_get (by omega)]; exact List.getElem_mem _)
  rw [← hN1] at hcx
  have hep : eP ls = (N1, (lineAt ls N1).size) := by unfold eP; rw [show ls.length - 1 = N1 by omega]
  have hwN : IntKind.i64.wrap ((n : Int) - 1) = (N1 : Int) := by rw [IntKind.wrap_i64]; omega
  have bN : (N1 : Int) < (n : Int) := by omega
  have bN2 : N1 < n := by omega
  rw [hep] at hte
  generalize hST : lineAt ls N1 = sl at *
  have HCX := Lib.hid hcx
  have HMAT := Lib.hid hmat
  have HFR := Lib.hid hfr
  have HTO := Lib.hid hto
  have HTE := Lib.hid hte
  have HEN := Lib.hid hends
  have HOK := Lib.hid hok
  clear hX h hO hk hi hr1 hr2 hr3 hv hm hS hmat hfr hto hte hends hok hcx hep hST hN1
  go_enter Try.func19, Try.ntmps19
  go_wp2_with fail
  rw [← HX.out]
  refine hin.mono ?_
  rintro e w1 ⟨rfl, hb1⟩
  have T1 := hT.on hb1
  clear hin p0 p1 hT hb1 HX
  go_wp2_with fail
  refine (hsa _ T1.below).mono ?_
  rintro e w2 ⟨ra, N, cc, rfl, hps, hb2⟩
  have T2 := T1.on hb2
  have hNl := hps.length
  have hN9 : N ≤ 900000 := by omega
  have hmN : m ≤ N := by omega
  have HPS := Lib.hid hps
  have HT2 := Lib.hid T2
  have HNl := Lib.hid hNl
  clear hsa hb2 T1 hps T2 hNl hmle
  go_wp2
  go_loopw [9, 10] (fun kv iv wr => ∃ j : Nat, kv = .int .i64 (((min j m : Nat) : Int) - 1) ∧ iv = .int .i64 j ∧ Hid (j ≤ N ∧ Below w2.heap.size w2 wr)) (fun kv iv _ => N - (RowKit.intOf iv).toNat)
  case atStart => exact ⟨0, by simp, rfl, Nat.zero_le _, Below.refl _ _⟩
  case round =>
    obtain ⟨j, rfl, rfl, hR⟩ := hrel
    have hbr := hR.out.2
    by_cases hjN : j < N
    · have hjl : j < S.length := by have := HNl.out; omega
      obtain ⟨b, o, rfl, x0, x1, hnc2⟩ := (HPS.out.below hbr).read j hjl
      have T := HT2.out.on hbr
      have hlx := HMAT.out j hjl
      rw [← get2 hjl] at x0 x1
      obtain ⟨x, hx⟩ : ∃ x : P2, x = S.getD j (0, 0) := ⟨_, rfl⟩
      rw [← hx] at x0 x1 hlx
      have f0 := fun z : Gr wr => z.cell x0
      have f1 := fun z : Gr wr => z.cell x1
      have f2 := fun z : Gr wr => z.cell T.pos.c0
      have f3 := fun z : Gr wr => z.cell T.pos.c1
      have hls := fun z : Gr wr => So.less5_any i k x.1 x.2 z.W
      have d0 : decide (j < N) = true := decide_eq_true hjN
      have bj : (j : Int) < (N : Int) := by omega
      obtain ⟨M, hM⟩ : ∃ M, M = j + 1 := ⟨_, rfl⟩
      have hwM : IntKind.i64.wrap ((j : Int) + 1) = (M : Int) := by rw [IntKind.wrap_i64]; omega
      have HM := Lib.hid (And.intro hM hjN)
      obtain ⟨kv, hkv⟩ : ∃ kv : Int, kv = ((min j m : Nat) : Int) - 1 := ⟨_, rfl⟩
      rw [← hkv]
      clear hM T x0 x1 hx hnc2
      by_cases hmj : m ≤ j
      · rw [decide_eq_true hmj] at hlx
        simp only [show So.lt i k x.1 x.2 = true from hlx] at hls
        have HK := Lib.hid (show kv = ((min M m : Nat) : Int) - 1 by rw [hkv]; have := HM.out; omega)
        clear hkv hmj hlx
        go_upto_region 8 with fail
        refine wp_region_grow (by kernel_rfl) (by kernel_rfl) ?_
        repeat (go_big_quiet_step (first | (go_at_call 20; exact Calls.grow_of (hls _))))
        refine wpQuiet_nil ?_
        rintro V ⟨⟨_, hbV⟩, rfl⟩
        clear f0 f1 f2 f3 hls
        have HB := Lib.hid (below_on hbr hbV)
        clear hbV hbr hR
        go_wp2
        go_roundw
        case rel => exact ⟨M, by rw [HK.out], rfl, by have := HM.out; omega, HB.out⟩
        case measure => have := HM.out; simp [RowKit.intOf]; omega
      · rw [decide_eq_false hmj] at hlx
        simp only [show So.lt i k x.1 x.2 = false from hlx] at hls
        have HK := Lib.hid (show (j : Int) = ((min M m : Nat) : Int) - 1 by have := HM.out; omega)
        clear hkv hmj hlx
        go_upto_region 8 with fail
        refine wp_region_grow (by kernel_rfl) (by kernel_rfl) ?_
        repeat (go_big_quiet_step (first | (go_at_call 20; exact Calls.grow_of (hls _))))
        refine wpQuiet_nil ?_
        rintro V ⟨⟨_, hbV⟩, rfl⟩
        clear f0 f1 f2 f3 hls
        have HB := Lib.hid (below_on hbr hbV)
        clear hbV hbr hR
        go_wp2
        go_roundw
        case rel => exact ⟨M, by rw [HK.out], rfl, by have := HM.out; omega, HB.out⟩
        case measure => have := HM.out; simp [RowKit.intOf]; omega
    · have hjN2 : j = N := by have := hR.out.1; omega
      subst hjN2
      rw [show (min j m : Nat) = m by omega]
      have T3 := HT2.out.on hbr
      have hps3 := HPS.out.below hbr
      have d0 : decide (j < j) = false := decide_eq_false hjN
      have d00 : decide ((j : Int) < (j : Int)) = false := decide_eq_false (by omega)
      clear hR hbr HT2 HPS hjN
      by_cases hm0 : m = 0
      · have hv : v = snW none := by rw [HV.out, HOK.out, decide_eq_false (by omega)]; rfl
        have HV2 := Lib.hid hv
        subst hm0
        clear hv hps3
        have r0 := T3.rg.c0
        have r1' := T3.rg.c1
        have r2' := T3.rg.c2
        have r3' := T3.rg.c3
        have r4 := T3.rg.c4
        have z := T3.rg.z
        go_wp2
        obtain ⟨hg, hb⟩ := T3.ret 0 0 0 0 0
        exact ret_rb (g := w.heap.size + 1) rfl rfl rfl rfl hg ⟨by rw [HV2.out]; rfl, hb⟩
      obtain ⟨K, hK⟩ : ∃ K, m = K + 1 := ⟨m - 1, by omega⟩
      have hr3 : r3 = true := by rw [HOK.out]; exact decide_eq_true (by omega)
      subst hr3
      have hen := HEN.out (by omega)
      have HE := Lib.hid hen
      have hfr := HFR.out (by omega)
      obtain ⟨bS, oS, rfl, x0, x1, hncS⟩ := hps3.read (m - 1) (by have := HNl.out; omega)
      rw [← get2 (by have := HNl.out; omega), ← hfr] at x0 x1
      have hcx := cell_later T3.below HCX.out
      obtain ⟨kv, hkv⟩ : ∃ kv : Int, kv = ((m : Nat) : Int) - 1 := ⟨_, rfl⟩
      have hkK : kv = (K : Int) := by omega
      rw [← hkv, hkK]
      rw [show m - 1 = K by omega] at x0 x1
      have bK : (K : Int) < (j : Int) := by omega
      have bK2 : K < j := by omega
      obtain ⟨K1, hK1⟩ : ∃ K1, K1 = K + 1 := ⟨_, rfl⟩
      have hwK : IntKind.i64.wrap ((K : Int) + 1) = (K1 : Int) := by rw [IntKind.wrap_i64]; omega
      have dk : decide ((K : Int) < 0) = false := decide_eq_false (by omega)
      obtain ⟨x4, hx4⟩ : ∃ x, x = wr.alloc (.cells #[.int .i64 r1.1, .int .i64 r1.2] 36) := ⟨_, rfl⟩
      have hb4 : Below wr.heap.size wr x4 := by rw [hx4]; exact (Below.refl _ _).alloc (Nat.le_refl _) _
      have PA : PosAt x4 wr.heap.size r1.1 r1.2 := by rw [hx4]; exact PosAt.new _ _ _
      obtain ⟨GA, hGA⟩ : ∃ G, G = wr.heap.size := ⟨_, rfl⟩
      rw [← hGA] at PA
      obtain ⟨x5, hx5⟩ : ∃ x, x = x4.alloc (.cells #[.int .i64 (N1 : Int), .int .i64 (sl.size : Int)] 36) := ⟨_, rfl⟩
      have hb5 : Below x4.heap.size x4 x5 := by rw [hx5]; exact (Below.refl _ _).alloc (Nat.le_refl _) _
      have PB : PosAt x5 x4.heap.size N1 sl.size := by rw [hx5]; exact PosAt.new _ _ _
      obtain ⟨GB, hGB⟩ : ∃ G, G = x4.heap.size := ⟨_, rfl⟩
      rw [← hGB] at PB
      have hcx4 := cell_later hb4 hcx
      have hGAw : w.heap.size + 2 ≤ GA := by have := T3.size; omega
      have hAB : GA ≠ GB := by have := PA.lt; omega
      have hGBw : w.heap.size + 2 ≤ GB := by have := T3.size; have := hb4.size; omega
      have HX4 := Lib.hid (And.intro hx4 hGA)
      have HX5 := Lib.hid (And.intro hx5 hGB)
      have T5 := (T3.on hb4).on hb5
      have PA5 := PA.below hb5 PA.lt
      have hps5 := (hps3.below hb4).below hb5
      have HK1 := Lib.hid (And.intro hK hK1)
      clear hx4 hGA hx5 hGB hb4 hb5 hfr hen hcx T3 hps3 hkv hkK HEN HFR HOK hncS hK1 hK
      go_upto_region 13 with fail
      rw [← HX4.out.1, ← HX4.out.2]
      clear HX4 x0 x1
      go_upto_region 14 with fail
      rw [← HX5.out.1, ← HX5.out.2]
      clear HX5 hcx4
      by_cases hmN' : m < j
      · have hml : m < S.length := by have := HNl.out; omega
        have hto := HTO.out hml
        obtain ⟨bS', oS', he', y0, y1, _⟩ := hps5.read m hml
        injection he' with he'
        injection he' with e1 e2
        subst e1 e2
        rw [← get2 hml, ← hto] at y0 y1
        rw [show m = K1 by have := HK1.out; omega] at y0 y1
        have bK12 : K1 < j := by have := HK1.out; omega
        have bK1 : (K1 : Int) < (j : Int) := by omega
        have d1 : decide (K1 < j) = true := decide_eq_true (by omega)
        have d2 : decide ((K1 : Int) < (j : Int)) = true := decide_eq_true (by omega)
        have z0 := PB.c0
        have z1 := PB.c1
        have zz := fun k => frozen_of_row x5 GB k _ _ PB
        have PA6 : PosAt (setP x5 GB r2.1 r2.2) GA r1.1 r1.2 := (setP_other hAB).trans PA5
        have PB6 : PosAt (setP x5 GB r2.1 r2.2) GB r2.1 r2.2 := setP_at PB _ _
        have T6 := vb_setP T5 hGBw r2.1 r2.2
        obtain ⟨x7, hx7⟩ : ∃ x, x = setP x5 GB r2.1 r2.2 := ⟨_, rfl⟩
        rw [← hx7] at PA6 PB6 T6
        clear hto hps5 T5 PA5 PB HTO HTE hmN' hml PA
        go_upto_region 16 with fail
        have e7 := hx7.symm
        unfold setP at e7
        rw [e7]
        clear e7 hx7 y0 y1 z0 z1 zz d1 d2
        cases ar
        rotate_left
        · have hv : v = snW (if r1 = r2 then none else some (r1, r2)) := HV.out
          have he := fun W => Mv.eq_pos r1.1 r1.2 r2.1 r2.2 W
          rw [eq_p2] at he
          have b0 := PA6.c0
          have b1 := PA6.c1
          have b2 := PB6.c0
          have b3 := PB6.c1
          by_cases heq : r1 = r2
          · rw [decide_eq_true heq] at he
            rw [if_pos heq] at hv
            have HV2 := Lib.hid hv
            clear heq hv
            have r0 := T6.rg.c0
            have r1' := T6.rg.c1
            have r2' := T6.rg.c2
            have r3' := T6.rg.c3
            have r4 := T6.rg.c4
            have z := T6.rg.z
            go_wp2
            obtain ⟨hg, hb⟩ := T6.ret 0 0 0 0 0
            exact ret_rb (g := w.heap.size + 1) rfl rfl rfl rfl hg ⟨by rw [HV2.out]; rfl, hb⟩
          · rw [decide_eq_false heq] at he
            rw [if_neg heq] at hv
            have HV2 := Lib.hid hv
            clear heq hv
            go_wp2_with fail
            refine (char_any r1.1 r1.2 r2.1 r2.2 x7).mono ?_
            rintro _ v8 ⟨rfl, hb8⟩
            have T8 := T6.on hb8
            clear b0 b1 b2 b3 hb8
            have r0 := T8.rg.c0
            have r1' := T8.rg.c1
            have r2' := T8.rg.c2
            have r3' := T8.rg.c3
            have r4 := T8.rg.c4
            have z := T8.rg.z
            go_wp2
            obtain ⟨hg, hb⟩ := T8.ret 0 r1.1 r1.2 r2.1 r2.2
            exact ret_rb (g := w.heap.size + 1) rfl rfl rfl rfl hg ⟨by rw [HV2.out]; rfl, hb⟩
        have hv : v = snW (if r1 = wend ls r1 r2 then none else some (r1, wend ls r1 r2)) := HV.out
        obtain ⟨e, hee⟩ : ∃ e, e = wend ls r1 r2 := ⟨_, rfl⟩
        rw [← hee] at hv
        have e6 := PA6.c0
        have e7 := PA6.c1
        obtain ⟨x6, hx6⟩ : ∃ x, x = x7.alloc (.cells #[.int .i64 r1.1, .int .i64 r1.2] 36) := ⟨_, rfl⟩
        have hb6 : Below x7.heap.size x7 x6 := by rw [hx6]; exact (Below.refl _ x7).alloc (Nat.le_refl _) _
        have PE : PosAt x6 x7.heap.size r1.1 r1.2 := by rw [hx6]; exact PosAt.new _ _ _
        obtain ⟨GE, hGE⟩ : ∃ G, G = x7.heap.size := ⟨_, rfl⟩
        rw [← hGE] at PE
        have hGEw : w.heap.size + 2 ≤ GE := by have := T6.size; omega
        have hAE : GA ≠ GE := by have := PA6.lt; omega
        have hBE : GB ≠ GE := by have := PB6.lt; omega
        have D6 : Dz w i k GA GB GE r1 r2 r1 x6 := ⟨T6.on hb6, PA6.below hb6 PA6.lt, PB6.below hb6 PB6.lt, PE⟩
        have HX6 := Lib.hid (And.intro hx6 hGE)
        clear hx6 hGE hb6 PE T6 PA6 PB6 HV
        go_upto_region 18 with fail
        rw [← HX6.out.1, ← HX6.out.2]
        clear HX6 e6 e7
        have e6 := D6.pa.c0
        have e7 := D6.pa.c1
        go_wp2
        have hll : r2.1 < n := by have := HE.out.2; omega
        have HD6 := Lib.hid D6
        clear D6 e6 e7
        go_loopw [14] (fun y wr => ∃ Y : Nat, y = .int .i64 Y ∧ Hid (r1.1 ≤ Y ∧ Y ≤ r2.1 + 1 ∧ Dz w i k GA GB GE r1 r2 (wb r1 r2 r1 (cells (enr ls 0 Y))) wr)) (fun y _ => r2.1 + 1 - (RowKit.intOf y).toNat)
        case atStart => exact ⟨r1.1, rfl, Nat.le_refl _, by have := HE.out.1; omega, by rw [wb_low (Nat.le_refl _)]; exact HD6.out⟩
        case round =>
          obtain ⟨Y, rfl, hR⟩ := hrel
          clear HD6
          by_cases hY : Y ≤ r2.1
          · have hYn : Y < n := by omega
            obtain ⟨hY1, hY2, hD⟩ := hR.out
            obtain ⟨g', o', he', hcY, _, _⟩ := HS.out.read Y (by omega)
            injection he' with he'
            injection he' with e1 e2
            subst e1 e2
            rw [← lineAt_get (ls := ls) (k := Y) (by omega)] at hcY
            have hstz := hs (lineAt ls Y) (by rw [lineAt_get (by omega)]; exact List.getElem_mem _)
            obtain ⟨st, hst⟩ : ∃ st, st = lineAt ls Y := ⟨_, rfl⟩
            have hcl := cells_line ls Y
            rw [← hst] at hcY hstz hcl
            have HCL := Lib.hid hcl
            have y0 := hD.pb.c0
            have d0 : decide (Y ≤ r2.1) = true := decide_eq_true hY
            have d1 : decide ((Y : Int) ≤ (r2.1 : Int)) = true := decide_eq_true (by omega)
            have bY : (Y : Int) < (n : Int) := by omega
            have HD := Lib.hid hD
            have HYY := Lib.hid (And.intro hY1 hY2)
            have HCY := Lib.hid hcY
            obtain ⟨C0, hC0⟩ : ∃ C0, C0 = cells (enr ls 0 Y) := ⟨_, rfl⟩
            rw [← hC0] at HD HCL
            clear hD hR hY1 hY2 hst hcl hC0 hcY
            have hYY := HYY.out
            clear HYY
            go_wp2
            clear y0 d0 d1
            go_loopw [15] (fun x wq => ∃ J : Nat, x = .int .i64 J ∧ Hid (J ≤ st.size ∧ Dz w i k GA GB GE r1 r2 (wb r1 r2 r1 (C0 ++ (lcell (Y, st)).take J)) wq)) (fun x _ => st.size - (RowKit.intOf x).toNat)
            case atStart => exact ⟨0, rfl, Nat.zero_le _, by rw [List.take_zero, List.append_nil]; exact HD.out⟩
            case round =>
              obtain ⟨J, rfl, hQ⟩ := hrel
              clear HD
              have hcJ := cell_later hQ.out.2.vb.below HCY.out
              by_cases hJ : J < st.size
              · have hnx : (lcell (Y, st)).take (J + 1) = (lcell (Y, st)).take J ++ [((Y, J), st[J])] := (cells_step (all := [(Y, st)]) (pre := []) (rest := []) rfl J hJ).2
                have hD := hQ.out.2
                obtain ⟨M, hM⟩ : ∃ M, M = J + 1 := ⟨_, rfl⟩
                rw [← hM] at hnx
                have hwM : IntKind.i64.wrap ((J : Int) + 1) = (M : Int) := by rw [IntKind.wrap_i64]; omega
                have HNX := Lib.hid hnx
                have HM := Lib.hid (And.intro hM hJ)
                have dJ : decide (J < st.size) = true := decide_eq_true hJ
                have bJ : (J : Int) < (st.size : Int) := by omega
                have HD := Lib.hid hD
                have hof := fun W => of5_any ((st[J]'hJ).toNat) true W
                obtain ⟨CV, hCV⟩ : ∃ CV : Int, CV = cls ((st[J]'hJ).toNat : Int) true := ⟨_, rfl⟩
                rw [← hCV] at hof
                have hok : okc r1 r2 ((Y, J), st[J]) = (!lp (Y, J) r1 && (lp (Y, J) r2 && decide (CV ≠ 0))) := by rw [hCV]; rfl
                have HOK := Lib.hid hok
                clear hQ hnx hM hok hCV hD
                obtain ⟨q5, hq5⟩ : ∃ v, v = wr.alloc (.cells #[.int .i64 (Y : Int), .int .i64 (J : Int)] 36) := ⟨_, rfl⟩
                have hbq : Below wr.heap.size wr q5 := by rw [hq5]; exact (Below.refl _ wr).alloc (Nat.le_refl _) _
                have PQ : PosAt q5 wr.heap.size Y J := by rw [hq5]; exact PosAt.new wr Y J
                have D5 := HD.out.on hbq
                have hcq := cell_later hbq hcJ
                obtain ⟨GQ, hGQ⟩ : ∃ G, G = wr.heap.size := ⟨_, rfl⟩
                rw [← hGQ] at PQ
                have HQ5 := Lib.hid (And.intro hq5 hGQ)
                clear hbq hq5 hGQ
                have q0 := PQ.c0
                have q1 := PQ.c1
                have a0 := D5.pa.c0
                have a1 := D5.pa.c1
                have HDQ := Lib.hid (And.intro D5 (And.intro PQ hcq))
                have hl1 := So.less5_any Y J r1.1 r1.2 q5
                clear D5 PQ hcq HD
                cases hla : lp (Y, J) r1
                · rw [show So.lt Y J r1.1 r1.2 = false from hla] at hl1
                  rw [hla] at HOK
                  clear hla
                  go_upto_region 25 with fail
                  rw [← HQ5.out.1, ← HQ5.out.2]
                  clear HQ5 hcJ
                  go_wp2_with fail
                  refine hl1.mono ?_
                  rintro _ q6 ⟨rfl, hb6⟩
                  have D6 := HDQ.out.1.on hb6
                  have PQ6 := HDQ.out.2.1.below hb6 HDQ.out.2.1.lt
                  have hc6 := cell_later hb6 HDQ.out.2.2
                  clear hl1 q0 q1 a0 a1 hb6
                  have q0 := PQ6.c0
                  have q1 := PQ6.c1
                  have a0 := D6.pb.c0
                  have a1 := D6.pb.c1
                  have HDQ := Lib.hid (And.intro D6 hc6)
                  have hl2 := So.less5_any Y J r2.1 r2.2 q6
                  clear D6 PQ6 hc6
                  cases hlb : lp (Y, J) r2
                  · rw [show So.lt Y J r2.1 r2.2 = false from hlb] at hl2
                    rw [hlb] at HOK
                    clear hlb
                    go_wp2_with fail
                    refine hl2.mono ?_
                    rintro _ q7 ⟨rfl, hb7⟩
                    have HDR := Lib.hid (HDQ.out.1.on hb7)
                    clear hl2 q0 q1 a0 a1 hb7 HDQ hof
                    go_wp2
                    go_roundw
                    case rel => exact ⟨M, rfl, by have := HM.out; omega, by rw [HNX.out, ← List.append_assoc, wb_no HOK.out]; exact HDR.out⟩
                    case measure => have := HM.out; simp [RowKit.intOf]; omega
                  · rw [show So.lt Y J r2.1 r2.2 = true from hlb] at hl2
                    rw [hlb] at HOK
                    clear hlb
                    go_wp2_with fail
                    refine hl2.mono ?_
                    rintro _ q7 ⟨rfl, hb7⟩
                    have D7 := HDQ.out.1.on hb7
                    have hc7 := cell_later hb7 HDQ.out.2
                    have HDR := Lib.hid D7
                    clear hl2 q0 q1 a0 a1 hb7 HDQ
                    by_cases hcv : CV = 0
                    · have hok : okc r1 r2 ((Y, J), st[J]) = false := by rw [HOK.out, hcv]; rfl
                      have HOK2 := Lib.hid hok
                      subst hcv
                      clear hok D7
                      go_wp2_with fail
                      refine (hof _).mono ?_
                      rintro _ _ ⟨rfl, rfl⟩
                      clear hof hc7
                      go_wp2
                      go_roundw
                      case rel => exact ⟨M, rfl, by have := HM.out; omega, by rw [HNX.out, ← List.append_assoc, wb_no HOK2.out]; exact HDR.out⟩
                      case measure => have := HM.out; simp [RowKit.intOf]; omega
                    · have hok : okc r1 r2 ((Y, J), st[J]) = true := by rw [HOK.out, decide_eq_true hcv]; rfl
                      have HOK2 := Lib.hid hok
                      have c0 : (CV == 0) = false := by rw [beq_eq_false_iff_ne]; exact hcv
                      have m0 := D7.pe.c0
                      have m1 := D7.pe.c1
                      have mz := fun k => frozen_of_row q7 GE k _ _ D7.pe
                      have HDS := Lib.hid (D7.setE hGEw hAE hBE Y M)
                      clear hok D7 hcv HDR
                      go_wp2_with fail
                      refine (hof _).mono ?_
                      rintro _ _ ⟨rfl, rfl⟩
                      clear hof hc7
                      go_wp2
                      go_roundw
                      case rel => exact ⟨M, rfl, by have := HM.out; omega, by rw [HNX.out, ← List.append_assoc, wb_yes HOK2.out, show J + 1 = M from HM.out.1.symm]; exact HDS.out⟩
                      case measure => have := HM.out; simp [RowKit.intOf]; omega
                · rw [show So.lt Y J r1.1 r1.2 = true from hla] at hl1
                  rw [hla] at HOK
                  clear hla
                  go_upto_region 25 with fail
                  rw [← HQ5.out.1, ← HQ5.out.2]
                  clear HQ5 hcJ
                  go_wp2_with fail
                  refine hl1.mono ?_
                  rintro _ q6 ⟨rfl, hb6⟩
                  have HDR := Lib.hid (HDQ.out.1.on hb6)
                  clear hl1 q0 q1 a0 a1 hb6 HDQ hof
                  go_wp2
                  go_roundw
                  case rel => exact ⟨M, rfl, by have := HM.out; omega, by rw [HNX.out, ← List.append_assoc, wb_no HOK.out]; exact HDR.out⟩
                  case measure => have := HM.out; simp [RowKit.intOf]; omega
              · have hJe : J = st.size := by have := hQ.out.1; omega
                have hDe : Dz w i k GA GB GE r1 r2 (wb r1 r2 r1 (cells (enr ls 0 (Y + 1)))) wr := by
                  rw [HCL.out]
                  have := hQ.out.2
                  rwa [hJe, List.take_of_length_le (by rw [lcell_length]; exact Nat.le_refl _)] at this
                have HDE := Lib.hid hDe
                have dJ : decide (J < st.size) = false := decide_eq_false hJ
                have bJ : decide ((J : Int) < (st.size : Int)) = false := decide_eq_false (by omega)
                obtain ⟨Z, hZ⟩ : ∃ Z, Z = Y + 1 := ⟨_, rfl⟩
                have hwZ : IntKind.i64.wrap ((Y : Int) + 1) = (Z : Int) := by rw [IntKind.wrap_i64]; omega
                have HZ := Lib.hid hZ
                clear hQ hDe hJe hZ
                go_wp2
                go_roundw
                case rel => exact ⟨Z, rfl, by have := HZ.out; omega, by have := HZ.out; omega, by rw [HZ.out]; exact HDE.out⟩
                case measure => have := HZ.out; simp [RowKit.intOf]; omega
          · have hYe : Y = r2.1 + 1 := by have := hR.out.2.1; omega
            have hD := hR.out.2.2
            rw [hYe, ← wb_high (by omega) (by omega), ← hee] at hD
            have d0 : decide (Y ≤ r2.1) = false := decide_eq_false hY
            have d1 : decide ((Y : Int) ≤ (r2.1 : Int)) = false := decide_eq_false (by omega)
            have PA9 : PosAt (setP wr GB e.1 e.2) GA r1.1 r1.2 := (setP_other hAB).trans hD.pa
            have PB9 : PosAt (setP wr GB e.1 e.2) GB e.1 e.2 := setP_at hD.pb _ _
            have T9 := vb_setP hD.vb hGBw e.1 e.2
            have y0 := hD.pb.c0
            have y1 := hD.pb.c1
            have yz := fun k => frozen_of_row wr GB k _ _ hD.pb
            have z0 := hD.pe.c0
            have z1 := hD.pe.c1
            obtain ⟨x9, hx9⟩ : ∃ v, v = setP wr GB e.1 e.2 := ⟨_, rfl⟩
            rw [← hx9] at PA9 PB9 T9
            clear hR hD hYe hee hY
            go_upto_region 28 with fail
            have e9 := hx9.symm
            unfold setP at e9
            rw [e9]
            clear e9 hx9 y0 y1 yz z0 z1 d0 d1
            have he := fun W => Mv.eq_pos r1.1 r1.2 e.1 e.2 W
            rw [eq_p2] at he
            have b0 := PA9.c0
            have b1 := PA9.c1
            have b2 := PB9.c0
            have b3 := PB9.c1
            by_cases heq : r1 = e
            · rw [decide_eq_true heq] at he
              rw [if_pos heq] at hv
              have HV2 := Lib.hid hv
              clear heq hv
              have r0 := T9.rg.c0
              have r1' := T9.rg.c1
              have r2' := T9.rg.c2
              have r3' := T9.rg.c3
              have r4 := T9.rg.c4
              have z := T9.rg.z
              go_wp2
              obtain ⟨hg, hb⟩ := T9.ret 0 0 0 0 0
              exact ret_rb (g := w.heap.size + 1) rfl rfl rfl rfl hg ⟨by rw [HV2.out]; rfl, hb⟩
            · rw [decide_eq_false heq] at he
              rw [if_neg heq] at hv
              have HV2 := Lib.hid hv
              clear heq hv
              go_wp2_with fail
              refine (char_any r1.1 r1.2 e.1 e.2 x9).mono ?_
              rintro _ v8 ⟨rfl, hb8⟩
              have T8 := T9.on hb8
              clear b0 b1 b2 b3 hb8
              have r0 := T8.rg.c0
              have r1' := T8.rg.c1
              have r2' := T8.rg.c2
              have r3' := T8.rg.c3
              have r4 := T8.rg.c4
              have z := T8.rg.z
              go_wp2
              obtain ⟨hg, hb⟩ := T8.ret 0 r1.1 r1.2 e.1 e.2
              exact ret_rb (g := w.heap.size + 1) rfl rfl rfl rfl hg ⟨by rw [HV2.out]; rfl, hb⟩
      · have hr2 : r2 = (N1, sl.size) := HTE.out (by have := HNl.out; omega)
        have d1 : decide (K1 < j) = false := decide_eq_false (by have := HK1.out; omega)
        have d2 : decide ((K1 : Int) < (j : Int)) = false := decide_eq_false (by have := HK1.out; omega)
        have PB6 : PosAt x5 GB r2.1 r2.2 := by rw [hr2]; exact PB
        clear hr2 hps5 HTO HTE PB hmN' PA
        go_upto_region 16 with fail
        clear d1 d2
        cases ar
        rotate_left
        · have hv : v = snW (if r1 = r2 then none else some (r1, r2)) := HV.out
          have he := fun W => Mv.eq_pos r1.1 r1.2 r2.1 r2.2 W
          rw [eq_p2] at he
          have b0 := PA5.c0
          have b1 := PA5.c1
          have b2 := PB6.c0
          have b3 := PB6.c1
          by_cases heq : r1 = r2
          · rw [decide_eq_true heq] at he
            rw [if_pos heq] at hv
            have HV2 := Lib.hid hv
            clear heq hv
            have r0 := T5.rg.c0
            have r1' := T5.rg.c1
            have r2' := T5.rg.c2
            have r3' := T5.rg.c3
            have r4 := T5.rg.c4
            have z := T5.rg.z
            go_wp2
            obtain ⟨hg, hb⟩ := T5.ret 0 0 0 0 0
            exact ret_rb (g := w.heap.size + 1) rfl rfl rfl rfl hg ⟨by rw [HV2.out]; rfl, hb⟩
          · rw [decide_eq_false heq] at he
            rw [if_neg heq] at hv
            have HV2 := Lib.hid hv
            clear heq hv
            go_wp2_with fail
            refine (char_any r1.1 r1.2 r2.1 r2.2 x5).mono ?_
            rintro _ v8 ⟨rfl, hb8⟩
            have T8 := T5.on hb8
            clear b0 b1 b2 b3 hb8
            have r0 := T8.rg.c0
            have r1' := T8.rg.c1
            have r2' := T8.rg.c2
            have r3' := T8.rg.c3
            have r4 := T8.rg.c4
            have z := T8.rg.z
            go_wp2
            obtain ⟨hg, hb⟩ := T8.ret 0 r1.1 r1.2 r2.1 r2.2
            exact ret_rb (g := w.heap.size + 1) rfl rfl rfl rfl hg ⟨by rw [HV2.out]; rfl, hb⟩
        have hv : v = snW (if r1 = wend ls r1 r2 then none else some (r1, wend ls r1 r2)) := HV.out
        obtain ⟨e, hee⟩ : ∃ e, e = wend ls r1 r2 := ⟨_, rfl⟩
        rw [← hee] at hv
        have e6 := PA5.c0
        have e7 := PA5.c1
        obtain ⟨x6, hx6⟩ : ∃ x, x = x5.alloc (.cells #[.int .i64 r1.1, .int .i64 r1.2] 36) := ⟨_, rfl⟩
        have hb6 : Below x5.heap.size x5 x6 := by rw [hx6]; exact (Below.refl _ x5).alloc (Nat.le_refl _) _
        have PE : PosAt x6 x5.heap.size r1.1 r1.2 := by rw [hx6]; exact PosAt.new _ _ _
        obtain ⟨GE, hGE⟩ : ∃ G, G = x5.heap.size := ⟨_, rfl⟩
        rw [← hGE] at PE
        have hGEw : w.heap.size + 2 ≤ GE := by have := T5.size; omega
        have hAE : GA ≠ GE := by have := PA5.lt; omega
        have hBE : GB ≠ GE := by have := PB6.lt; omega
        have D6 : Dz w i k GA GB GE r1 r2 r1 x6 := ⟨T5.on hb6, PA5.below hb6 PA5.lt, PB6.below hb6 PB6.lt, PE⟩
        have HX6 := Lib.hid (And.intro hx6 hGE)
        clear hx6 hGE hb6 PE T5 PA5 PB6 HV
        go_upto_region 18 with fail
        rw [← HX6.out.1, ← HX6.out.2]
        clear HX6 e6 e7
        have e6 := D6.pa.c0
        have e7 := D6.pa.c1
        go_wp2
        have hll : r2.1 < n := by have := HE.out.2; omega
        have HD6 := Lib.hid D6
        clear D6 e6 e7
        go_loopw [14] (fun y wr => ∃ Y : Nat, y = .int .i64 Y ∧ Hid (r1.1 ≤ Y ∧ Y ≤ r2.1 + 1 ∧ Dz w i k GA GB GE r1 r2 (wb r1 r2 r1 (cells (enr ls 0 Y))) wr)) (fun y _ => r2.1 + 1 - (RowKit.intOf y).toNat)
        case atStart => exact ⟨r1.1, rfl, Nat.le_refl _, by have := HE.out.1; omega, by rw [wb_low (Nat.le_refl _)]; exact HD6.out⟩
        case round =>
          obtain ⟨Y, rfl, hR⟩ := hrel
          clear HD6
          by_cases hY : Y ≤ r2.1
          · have hYn : Y < n := by omega
            obtain ⟨hY1, hY2, hD⟩ := hR.out
            obtain ⟨g', o', he', hcY, _, _⟩ := HS.out.read Y (by omega)
            injection he' with he'
            injection he' with e1 e2
            subst e1 e2
            rw [← lineAt_get (ls := ls) (k := Y) (by omega)] at hcY
            have hstz := hs (lineAt ls Y) (by rw [lineAt_get (by omega)]; exact List.getElem_mem _)
            obtain ⟨st, hst⟩ : ∃ st, st = lineAt ls Y := ⟨_, rfl⟩
            have hcl := cells_line ls Y
            rw [← hst] at hcY hstz hcl
            have HCL := Lib.hid hcl
            have y0 := hD.pb.c0
            have d0 : decide (Y ≤ r2.1) = true := decide_eq_true hY
            have d1 : decide ((Y : Int) ≤ (r2.1 : Int)) = true := decide_eq_true (by omega)
            have bY : (Y : Int) < (n : Int) := by omega
            have HD := Lib.hid hD
            have HYY := Lib.hid (And.intro hY1 hY2)
            have HCY := Lib.hid hcY
            obtain ⟨C0, hC0⟩ : ∃ C0, C0 = cells (enr ls 0 Y) := ⟨_, rfl⟩
            rw [← hC0] at HD HCL
            clear hD hR hY1 hY2 hst hcl hC0 hcY
            have hYY := HYY.out
            clear HYY
            go_wp2
            clear y0 d0 d1
            go_loopw [15] (fun x wq => ∃ J : Nat, x = .int .i64 J ∧ Hid (J ≤ st.size ∧ Dz w i k GA GB GE r1 r2 (wb r1 r2 r1 (C0 ++ (lcell (Y, st)).take J)) wq)) (fun x _ => st.size - (RowKit.intOf x).toNat)
            case atStart => exact ⟨0, rfl, Nat.zero_le _, by rw [List.take_zero, List.append_nil]; exact HD.out⟩
            case round =>
              obtain ⟨J, rfl, hQ⟩ := hrel
              clear HD
              have hcJ := cell_later hQ.out.2.vb.below HCY.out
              by_cases hJ : J < st.size
              · have hnx : (lcell (Y, st)).take (J + 1) = (lcell (Y, st)).take J ++ [((Y, J), st[J])] := (cells_step (all := [(Y, st)]) (pre := []) (rest := []) rfl J hJ).2
                have hD := hQ.out.2
                obtain ⟨M, hM⟩ : ∃ M, M = J + 1 := ⟨_, rfl⟩
                rw [← hM] at hnx
                have hwM : IntKind.i64.wrap ((J : Int) + 1) = (M : Int) := by rw [IntKind.wrap_i64]; omega
                have HNX := Lib.hid hnx
                have HM := Lib.hid (And.intro hM hJ)
                have dJ : decide (J < st.size) = true := decide_eq_true hJ
                have bJ : (J : Int) < (st.size : Int) := by omega
                have HD := Lib.hid hD
                have hof := fun W => of5_any ((st[J]'hJ).toNat) true W
                obtain ⟨CV, hCV⟩ : ∃ CV : Int, CV = cls ((st[J]'hJ).toNat : Int) true := ⟨_, rfl⟩
                rw [← hCV] at hof
                have hok : okc r1 r2 ((Y, J), st[J]) = (!lp (Y, J) r1 && (lp (Y, J) r2 && decide (CV ≠ 0))) := by rw [hCV]; rfl
                have HOK := Lib.hid hok
                clear hQ hnx hM hok hCV hD
                obtain ⟨q5, hq5⟩ : ∃ v, v = wr.alloc (.cells #[.int .i64 (Y : Int), .int .i64 (J : Int)] 36) := ⟨_, rfl⟩
                have hbq : Below wr.heap.size wr q5 := by rw [hq5]; exact (Below.refl _ wr).alloc (Nat.le_refl _) _
                have PQ : PosAt q5 wr.heap.size Y J := by rw [hq5]; exact PosAt.new wr Y J
                have D5 := HD.out.on hbq
                have hcq := cell_later hbq hcJ
                obtain ⟨GQ, hGQ⟩ : ∃ G, G = wr.heap.size := ⟨_, rfl⟩
                rw [← hGQ] at PQ
                have HQ5 := Lib.hid (And.intro hq5 hGQ)
                clear hbq hq5 hGQ
                have q0 := PQ.c0
                have q1 := PQ.c1
                have a0 := D5.pa.c0
                have a1 := D5.pa.c1
                have HDQ := Lib.hid (And.intro D5 (And.intro PQ hcq))
                have hl1 := So.less5_any Y J r1.1 r1.2 q5
                clear D5 PQ hcq HD
                cases hla : lp (Y, J) r1
                · rw [show So.lt Y J r1.1 r1.2 = false from hla] at hl1
                  rw [hla] at HOK
                  clear hla
                  go_upto_region 25 with fail
                  rw [← HQ5.out.1, ← HQ5.out.2]
                  clear HQ5 hcJ
                  go_wp2_with fail
                  refine hl1.mono ?_
                  rintro _ q6 ⟨rfl, hb6⟩
                  have D6 := HDQ.out.1.on hb6
                  have PQ6 := HDQ.out.2.1.below hb6 HDQ.out.2.1.lt
                  have hc6 := cell_later hb6 HDQ.out.2.2
                  clear hl1 q0 q1 a0 a1 hb6
                  have q0 := PQ6.c0
                  have q1 := PQ6.c1
                  have a0 := D6.pb.c0
                  have a1 := D6.pb.c1
                  have HDQ := Lib.hid (And.intro D6 hc6)
                  have hl2 := So.less5_any Y J r2.1 r2.2 q6
                  clear D6 PQ6 hc6
                  cases hlb : lp (Y, J) r2
                  · rw [show So.lt Y J r2.1 r2.2 = false from hlb] at hl2
                    rw [hlb] at HOK
                    clear hlb
                    go_wp2_with fail
                    refine hl2.mono ?_
                    rintro _ q7 ⟨rfl, hb7⟩
                    have HDR := Lib.hid (HDQ.out.1.on hb7)
                    clear hl2 q0 q1 a0 a1 hb7 HDQ hof
                    go_wp2
                    go_roundw
                    case rel => exact ⟨M, rfl, by have := HM.out; omega, by rw [HNX.out, ← List.append_assoc, wb_no HOK.out]; exact HDR.out⟩
                    case measure => have := HM.out; simp [RowKit.intOf]; omega
                  · rw [show So.lt Y J r2.1 r2.2 = true from hlb] at hl2
                    rw [hlb] at HOK
                    clear hlb
                    go_wp2_with fail
                    refine hl2.mono ?_
                    rintro _ q7 ⟨rfl, hb7⟩
                    have D7 := HDQ.out.1.on hb7
                    have hc7 := cell_later hb7 HDQ.out.2
                    have HDR := Lib.hid D7
                    clear hl2 q0 q1 a0 a1 hb7 HDQ
                    by_cases hcv : CV = 0
                    · have hok : okc r1 r2 ((Y, J), st[J]) = false := by rw [HOK.out, hcv]; rfl
                      have HOK2 := Lib.hid hok
                      subst hcv
                      clear hok D7
                      go_wp2_with fail
                      refine (hof _).mono ?_
                      rintro _ _ ⟨rfl, rfl⟩
                      clear hof hc7
                      go_wp2
                      go_roundw
                      case rel => exact ⟨M, rfl, by have := HM.out; omega, by rw [HNX.out, ← List.append_assoc, wb_no HOK2.out]; exact HDR.out⟩
                      case measure => have := HM.out; simp [RowKit.intOf]; omega
                    · have hok : okc r1 r2 ((Y, J), st[J]) = true := by rw [HOK.out, decide_eq_true hcv]; rfl
                      have HOK2 := Lib.hid hok
                      have c0 : (CV == 0) = false := by rw [beq_eq_false_iff_ne]; exact hcv
                      have m0 := D7.pe.c0
                      have m1 := D7.pe.c1
                      have mz := fun k => frozen_of_row q7 GE k _ _ D7.pe
                      have HDS := Lib.hid (D7.setE hGEw hAE hBE Y M)
                      clear hok D7 hcv HDR
                      go_wp2_with fail
                      refine (hof _).mono ?_
                      rintro _ _ ⟨rfl, rfl⟩
                      clear hof hc7
                      go_wp2
                      go_roundw
                      case rel => exact ⟨M, rfl, by have := HM.out; omega, by rw [HNX.out, ← List.append_assoc, wb_yes HOK2.out, show J + 1 = M from HM.out.1.symm]; exact HDS.out⟩
                      case measure => have := HM.out; simp [RowKit.intOf]; omega
                · rw [show So.lt Y J r1.1 r1.2 = true from hla] at hl1
                  rw [hla] at HOK
                  clear hla
                  go_upto_region 25 with fail
                  rw [← HQ5.out.1, ← HQ5.out.2]
                  clear HQ5 hcJ
                  go_wp2_with fail
                  refine hl1.mono ?_
                  rintro _ q6 ⟨rfl, hb6⟩
                  have HDR := Lib.hid (HDQ.out.1.on hb6)
                  clear hl1 q0 q1 a0 a1 hb6 HDQ hof
                  go_wp2
                  go_roundw
                  case rel => exact ⟨M, rfl, by have := HM.out; omega, by rw [HNX.out, ← List.append_assoc, wb_no HOK.out]; exact HDR.out⟩
                  case measure => have := HM.out; simp [RowKit.intOf]; omega
              · have hJe : J = st.size := by have := hQ.out.1; omega
                have hDe : Dz w i k GA GB GE r1 r2 (wb r1 r2 r1 (cells (enr ls 0 (Y + 1)))) wr := by
                  rw [HCL.out]
                  have := hQ.out.2
                  rwa [hJe, List.take_of_length_le (by rw [lcell_length]; exact Nat.le_refl _)] at this
                have HDE := Lib.hid hDe
                have dJ : decide (J < st.size) = false := decide_eq_false hJ
                have bJ : decide ((J : Int) < (st.size : Int)) = false := decide_eq_false (by omega)
                obtain ⟨Z, hZ⟩ : ∃ Z, Z = Y + 1 := ⟨_, rfl⟩
                have hwZ : IntKind.i64.wrap ((Y : Int) + 1) = (Z : Int) := by rw [IntKind.wrap_i64]; omega
                have HZ := Lib.hid hZ
                clear hQ hDe hJe hZ
                go_wp2
                go_roundw
                case rel => exact ⟨Z, rfl, by have := HZ.out; omega, by have := HZ.out; omega, by rw [HZ.out]; exact HDE.out⟩
                case measure => have := HZ.out; simp [RowKit.intOf]; omega
          · have hYe : Y = r2.1 + 1 := by have := hR.out.2.1; omega
            have hD := hR.out.2.2
            rw [hYe, ← wb_high (by omega) (by omega), ← hee] at hD
            have d0 : decide (Y ≤ r2.1) = false := decide_eq_false hY
            have d1 : decide ((Y : Int) ≤ (r2.1 : Int)) = false := decide_eq_false (by omega)
            have PA9 : PosAt (setP wr GB e.1 e.2) GA r1.1 r1.2 := (setP_other hAB).trans hD.pa
            have PB9 : PosAt (setP wr GB e.1 e.2) GB e.1 e.2 := setP_at hD.pb _ _
            have T9 := vb_setP hD.vb hGBw e.1 e.2
            have y0 := hD.pb.c0
            have y1 := hD.pb.c1
            have yz := fun k => frozen_of_row wr GB k _ _ hD.pb
            have z0 := hD.pe.c0
            have z1 := hD.pe.c1
            obtain ⟨x9, hx9⟩ : ∃ v, v = setP wr GB e.1 e.2 := ⟨_, rfl⟩
            rw [← hx9] at PA9 PB9 T9
            clear hR hD hYe hee hY
            go_upto_region 28 with fail
            have e9 := hx9.symm
            unfold setP at e9
            rw [e9]
            clear e9 hx9 y0 y1 yz z0 z1 d0 d1
            have he := fun W => Mv.eq_pos r1.1 r1.2 e.1 e.2 W
            rw [eq_p2] at he
            have b0 := PA9.c0
            have b1 := PA9.c1
            have b2 := PB9.c0
            have b3 := PB9.c1
            by_cases heq : r1 = e
            · rw [decide_eq_true heq] at he
              rw [if_pos heq] at hv
              have HV2 := Lib.hid hv
              clear heq hv
              have r0 := T9.rg.c0
              have r1' := T9.rg.c1
              have r2' := T9.rg.c2
              have r3' := T9.rg.c3
              have r4 := T9.rg.c4
              have z := T9.rg.z
              go_wp2
              obtain ⟨hg, hb⟩ := T9.ret 0 0 0 0 0
              exact ret_rb (g := w.heap.size + 1) rfl rfl rfl rfl hg ⟨by rw [HV2.out]; rfl, hb⟩
            · rw [decide_eq_false heq] at he
              rw [if_neg heq] at hv
              have HV2 := Lib.hid hv
              clear heq hv
              go_wp2_with fail
              refine (char_any r1.1 r1.2 e.1 e.2 x9).mono ?_
              rintro _ v8 ⟨rfl, hb8⟩
              have T8 := T9.on hb8
              clear b0 b1 b2 b3 hb8
              have r0 := T8.rg.c0
              have r1' := T8.rg.c1
              have r2' := T8.rg.c2
              have r3' := T8.rg.c3
              have r4 := T8.rg.c4
              have z := T8.rg.z
              go_wp2
              obtain ⟨hg, hb⟩ := T8.ret 0 r1.1 r1.2 e.1 e.2
              exact ret_rb (g := w.heap.size + 1) rfl rfl rfl rfl hg ⟨by rw [HV2.out]; rfl, hb⟩
end Go.Proofs.Ytnngcminomooeaa.Po
