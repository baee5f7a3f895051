/-
  The law EditBlocks, walked.
-/
import Derived.Test.YtkddnknjjdenhaaEdx
import Derived.Test.YtkddnknjjdenhaaEdq
import Derived.Test.YtkddnknjjdenhaaEdh
import Derived.Test.YtkddnknjjdenhaaEdPar
set_option linter.unusedVariables false
set_option linter.unusedSimpArgs false
set_option maxRecDepth 100000
namespace Go.Proofs.Ytkddnknjjdenhaa.EdBlo
open Go Go.RowKit Go.Proofs.Ytkddnknjjdenhaa.Vk Go.Proofs.Ytkddnknjjdenhaa.Str Go.Proofs.Ytkddnknjjdenhaa.Ln Go.Proofs.Ytkddnknjjdenhaa.Cl Go.Proofs.Ytkddnknjjdenhaa.Mv Go.Proofs.Ytkddnknjjdenhaa.Ed Go.Proofs.Ytkddnknjjdenhaa.EdJoi Go.Proofs.Ytkddnknjjdenhaa.EdPar
attribute [local go_sem] Oper.semAt_some

/-- What a line is, its block cut out. -/
theorem cut_line (ls : List ByteArray) (f c t d q : Nat) (hq : f + q ≤ t) (hcd : c ≤ d) : (rmd noB ls 2 f c t d)[q]? = some ((lineAt ls (f + q)).extract 0 (bF c (lineAt ls (f + q)).size) ++ (lineAt ls (f + q)).extract (bT d (lineAt ls (f + q)).size) (lineAt ls (f + q)).size) := by
  have e := rmd_get noB ls 2 f c t d q (by omega)
  rw [Int.toNat_natCast] at e
  rw [e]
  generalize lineAt ls (f + q) = s
  unfold rline
  rw [part_blk ls]
  have hF' : (So.colF 2 (f : Int) (c : Int) (f + q) s.size).toNat = bF c s.size := by
    unfold So.colF bF
    simp only [if_neg (show ¬ (2 : Int) = 0 by decide), if_pos]
    omega
  have h1 : bF c s.size ≤ bT d s.size := by unfold bF bT; split <;> omega
  have h2 : bT d s.size ≤ s.size := by unfold bT; split <;> omega
  have h3 : bF c s.size + (s.extract (bF c s.size) (bT d s.size)).size = bT d s.size := by rw [ByteArray.size_extract]; omega
  simp only [hF', noB, app_empty, h3]
structure Bl (w wr : World) (g0 g1 : Nat) (f c t d : Nat) (x : Rw) (b : Option Addr) (M cc : Nat) (O R TX : List ByteArray) : Prop where
  below : Below w.heap.size w wr
  rg : RgAt wr g0 2 f c t d
  ch : ChAt wr g1 x
  cw : CW wr x (f, O, R)
  tx : Ss wr b M cc TX
theorem Bl.on {w wr w' : World} {g0 g1 f c t d M cc : Nat} {x : Rw} {b : Option Addr} {O R TX : List ByteArray} (h : Bl w wr g0 g1 f c t d x b M cc O R TX) (hb : Below wr.heap.size wr w') : Bl w w' g0 g1 f c t d x b M cc O R TX :=
  ⟨below_on h.below hb, h.rg.below hb h.rg.lt, h.ch.below hb h.ch.lt, h.cw.below hb, SrcV.below h.tx hb⟩

set_option maxHeartbeats 8000000 in
theorem walk (a : Option Addr) (n c' : Nat) (ls : List ByteArray) (x y u v : Int) (w : World) (h : Ss w a n c' ls) (hs : ∀ s ∈ ls, s.size ≤ 140737488355328) (hx0 : (Lit.int .u16 x).wf = true) (hy0 : (Lit.int .u16 y).wf = true) (hu0 : (Lit.int .u16 u).wf = true) (hv0 : (Lit.int .u16 v).wf = true) :
    Calls Try.prog 8 #[.slice a n c', .int .u16 x, .int .u16 y, .int .u16 u, .int .u16 v] w fun e w' => e = .returned (.bool true) ∧ Below w.heap.size w w' := by
  have hk := known_any w
  have x2 : 0 ≤ x ∧ x ≤ 65535 := by simpa [Lit.wf, IntKind.min, IntKind.max, IntKind.signed, IntKind.bits] using hx0
  have y2 : 0 ≤ y ∧ y ≤ 65535 := by simpa [Lit.wf, IntKind.min, IntKind.max, IntKind.signed, IntKind.bits] using hy0
  have u2 : 0 ≤ u ∧ u ≤ 65535 := by simpa [Lit.wf, IntKind.min, IntKind.max, IntKind.signed, IntKind.bits] using hu0
  have v2 : 0 ≤ v ∧ v ≤ 65535 := by simpa [Lit.wf, IntKind.min, IntKind.max, IntKind.signed, IntKind.bits] using hv0
  have hlen := h.length
  have HI := Lib.hid (And.intro h (And.intro hs (And.intro x2 (And.intro y2 (And.intro u2 (And.intro v2 hlen))))))
  clear h hs hx0 hy0 hu0 hv0 x2 y2 u2 v2 hlen
  go_enter Try.func8, Try.ntmps8
  go_wp2_with fail
  refine hk.mono ?_
  rintro e w1 ⟨rfl, hb1⟩
  clear hk
  have ht := text_any a n c' ls w1 (SrcV.below HI.out.1 hb1) HI.out.2.1
  have HB1 := Lib.hid hb1
  clear hb1
  go_wp2_with fail
  refine ht.mono ?_
  rintro e w1' ⟨q, rfl, rfl, hq⟩
  clear ht
  have HQ := Lib.hid hq
  clear hq
  cases q with
  | false =>
    go_wp2
    go_ret
    exact ⟨rfl, HB1.out⟩
  | true =>
    obtain ⟨h0, h40, htz, _⟩ := HQ.out rfl
    have hz5 : ∀ s ∈ ls, s.size ≤ 100000 := fun s hm => by have := tz_mem ls s hm; omega
    have hn6 : n ≤ 1000000 := by omega
    have hra := range_any a n c' ls 2 x y u v w1 (SrcV.below HI.out.1 HB1.out) h0 hn6 hz5 (by decide) HI.out.2.2.1 HI.out.2.2.2.1 HI.out.2.2.2.2.1 HI.out.2.2.2.2.2.1
    have HZ := Lib.hid (And.intro hz5 hn6)
    clear HQ h0 h40 htz hz5 hn6
    go_wp2_with fail
    refine hra.mono ?_
    rintro e w2 ⟨f, c, t, d, rfl, hrs, hb2⟩
    clear hra
    rw [show (((2 : Int) % 3).toNat : Nat) = 2 from rfl] at hrs
    rw [show (((((2 : Int) % 3).toNat : Nat)) : Int) = 2 from rfl]
    have hft := hrs.ft
    have htl := hrs.tn
    have hcd := hrs.blk rfl
    have hd6 := hrs.small.2
    have htn : t < n := by have := HI.out.2.2.2.2.2.2; omega
    clear hrs
    obtain ⟨V2, hV2⟩ : ∃ V2, V2 = w2.alloc (.cells #[.int .i64 2, .int .i64 f, .int .i64 c, .int .i64 t, .int .i64 d] 48) := ⟨_, rfl⟩
    obtain ⟨g0, hg0⟩ : ∃ g0, g0 = w2.heap.size := ⟨_, rfl⟩
    have hbV2 : Below w2.heap.size w2 V2 := by rw [hV2]; exact one_below _ _
    have R0 : RgAt V2 g0 2 f c t d := by rw [hV2, hg0]; exact RgAt.new w2 2 f c t d
    have hbb := below_on HB1.out (below_on hb2 hbV2)
    have hcut := cut_block a n c' ls f c t d V2 (SrcV.below HI.out.1 hbb) HI.out.2.1 (fun s hm => Nat.le_trans (HZ.out.1 s hm) (by decide)) HZ.out.2 hft htn hcd
    have r0 := R0.c0
    have r1 := R0.c1
    have r2 := R0.c2
    have r3 := R0.c3
    have r4 := R0.c4
    have HR := Lib.hid (And.intro hft (And.intro htl (And.intro hcd (And.intro hd6 htn))))
    have H2 := Lib.hid (And.intro hV2 (And.intro hbb R0))
    clear hft htl hcd hd6 htn hV2 hbV2 R0 hbb hb2
    go_upto_region 6 with fail
    rw [← hg0, ← H2.out.1]
    clear hg0
    go_wp2_with fail
    refine hcut.mono ?_
    rintro e w3 ⟨⟨f3, ⟨oa3, on3, oc3⟩, na3, nn3, nc3⟩, rfl, hc3, hb3⟩
    simp only [cv, sv]
    clear hcut r0 r1 r2 r3 r4
    obtain ⟨M, hM⟩ : ∃ M, M = t + 1 - f := ⟨_, rfl⟩
    obtain ⟨V3, hV3⟩ : ∃ V3, V3 = w3.alloc (.cells #[.int .i64 f3, .slice oa3 on3 oc3, .slice na3 nn3 nc3] 31) := ⟨_, rfl⟩
    obtain ⟨g1, hg1⟩ : ∃ g1, g1 = w3.heap.size := ⟨_, rfl⟩
    have hbV3 : Below w3.heap.size w3 V3 := by rw [hV3]; exact one_below _ _
    have a3 : ChAt V3 g1 (f3, (oa3, on3, oc3), (na3, nn3, nc3)) := by rw [hV3, hg1]; exact ChAt.new w3 (f3, (oa3, on3, oc3), (na3, nn3, nc3))
    have bb3 := below_on hb3 hbV3
    have cc3 := hc3.below hbV3
    have hf3 : f3 = f := cc3.1
    have hnn : M = nn3 := by have h1 : (rmd noB ls 2 f c t d).length = nn3 := Ss.length cc3.2.2; rw [rmd_length] at h1; omega
    have hon : M = on3 := by have h1 : (cutL ls f t).length = on3 := Ss.length cc3.2.1; rw [cutL_length HR.out.1 HR.out.2.1] at h1; omega
    subst hf3 hnn hon
    have h5 := text5_blk a n c' ls f c t d V3 (SrcV.below (SrcV.below HI.out.1 H2.out.2.1) bb3) (fun s hm => Nat.le_trans (HZ.out.1 s hm) (by decide)) HZ.out.2 HR.out.1 HR.out.2.2.2.2 HR.out.2.2.1 HR.out.2.2.2.1
    have hR3 := H2.out.2.2.below bb3 H2.out.2.2.lt
    have r0 := hR3.c0
    have r1 := hR3.c1
    have r2 := hR3.c2
    have r3 := hR3.c3
    have r4 := hR3.c4
    rw [← hM] at h5
    have H3 := Lib.hid (And.intro hV3 (And.intro (below_on H2.out.2.1 bb3) (And.intro hR3 (And.intro a3 (And.intro cc3 hM)))))
    clear hV3 hbV3 a3 bb3 cc3 hc3 hb3 hR3 hM
    go_upto_region 7 with fail
    rw [← hg1, ← H3.out.1]
    clear hg1
    go_wp2_with fail
    refine h5.mono ?_
    rintro e w5 ⟨b, cc, rfl, hs5, hb5⟩
    clear h5 r0 r1 r2 r3 r4
    have hl5 := H3.out.2.2.1.lt
    have hl6 := H3.out.2.2.2.1.lt
    have HB := Lib.hid (Bl.mk (below_on H3.out.2.1 hb5) (H3.out.2.2.1.below hb5 hl5) (H3.out.2.2.2.1.below hb5 hl6) (H3.out.2.2.2.2.1.below hb5) hs5)
    have r1 := HB.out.rg.c1
    have m0 := HB.out.ch.c0
    have m1 : w5.cell? ⟨g1, 1, none⟩ = some (.slice oa3 M oc3) := HB.out.ch.c1
    have m2 : w5.cell? ⟨g1, 2, none⟩ = some (.slice na3 M nc3) := HB.out.ch.c2
    clear hs5 hb5
    go_wp2
    clear r1 m0 m1 m2
    go_loopw [15] (fun i wr => ∃ q : Nat, q ≤ M ∧ i = .int .i64 q ∧ Hid (Bl w wr g0 g1 f c t d ((f : Int), (oa3, M, oc3), (na3, M, nc3)) b M cc (cutL ls f t) (rmd noB ls 2 f c t d) (So.txt ls 2 f c t d))) (fun i _ => M - (RowKit.intOf i).toNat)
    case atStart => exact ⟨0, Nat.zero_le _, rfl, HB.out⟩
    case round =>
      obtain ⟨q, hq, rfl, HL⟩ := hrel
      by_cases hqM : q < M
      rotate_left
      · obtain rfl : q = M := by omega
        go_wp2
        go_ret
        exact ⟨rfl, HL.out.below⟩
      have hM := H3.out.2.2.2.2.2
      have hfq : f + q ≤ t := by omega
      have hcl := cut_line ls f c t d q hfq HR.out.2.2.1
      have hol := cutL_at (ls := ls) hfq HR.out.2.1
      have htx := So.txt_get ls 2 f c t d q (by omega)
      rw [Int.toNat_natCast, part_blk ls f c t d (f + q) (lineAt ls (f + q))] at htx
      have hsz : (lineAt ls (f + q)).size ≤ 100000 := by
        have hlt : f + q < ls.length := by have := HR.out.2.1; omega
        rw [lineAt_get hlt]; exact HZ.out.1 _ (List.getElem_mem hlt)
      obtain ⟨s, hs⟩ : ∃ s, s = lineAt ls (f + q) := ⟨_, rfl⟩
      rw [← hs] at hcl hol htx hsz
      have k1 : bF c s.size ≤ bT d s.size := by have := HR.out.2.2.1; unfold bF bT; split <;> omega
      have k2 : bT d s.size ≤ s.size := by unfold bT; split <;> omega
      have k3 : bT d s.size ≤ bF c s.size + (d - c + 1) := by have := HR.out.2.2.1; unfold bF bT; split <;> omega
      have k4 : min (c : Int) (s.size : Int) = (bF c s.size : Int) := by unfold bF; omega
      have k5 : (if c < s.size then (c : Int) else (s.size : Int)) = (bF c s.size : Int) := by unfold bF; split <;> omega
      have k6 : (if s.size < c then (s.size : Int) else (c : Int)) = (bF c s.size : Int) := by unfold bF; split <;> omega
      have k7 : (if c ≤ s.size then (c : Int) else (s.size : Int)) = (bF c s.size : Int) := by unfold bF; split <;> omega
      obtain ⟨F, hF⟩ : ∃ F, F = bF c s.size := ⟨_, rfl⟩
      obtain ⟨T, hT⟩ : ∃ T, T = bT d s.size := ⟨_, rfl⟩
      rw [← hF, ← hT] at k1 k3 hcl htx
      rw [← hT] at k2
      rw [← hF] at k4 k5 k6 k7
      have hr2 := HL.out.rg.c2
      have hr4 := HL.out.rg.c4
      have m1 : wr.cell? ⟨g1, 1, none⟩ = some (.slice oa3 M oc3) := HL.out.ch.c1
      have m2 : wr.cell? ⟨g1, 2, none⟩ = some (.slice na3 M nc3) := HL.out.ch.c2
      obtain ⟨bo, oo, ho, hco, hnco, _⟩ := Ss.read HL.out.cw.2.1 q (by rw [cutL_length HR.out.1 HR.out.2.1]; omega)
      obtain ⟨bn', on', hn', hcn, hncn, _⟩ := Ss.read HL.out.cw.2.2 q (by rw [rmd_length]; omega)
      obtain ⟨bt, ot, ht', hct, hnct, _⟩ := Ss.read HL.out.tx q (by rw [txt_length]; omega)
      simp only at ho hn'
      subst ho hn' ht'
      rw [← lineAt_get (by rw [cutL_length HR.out.1 HR.out.2.1]; omega), hol] at hco
      have hcn' : (rmd noB ls 2 f c t d)[q]'(by rw [rmd_length]; omega) = s.extract 0 F ++ s.extract T s.size := by
        rw [List.getElem?_eq_getElem (by rw [rmd_length]; omega)] at hcl; exact Option.some.inj hcl
      rw [hcn'] at hcn
      have hct' : (So.txt ls 2 f c t d)[q]'(by rw [txt_length]; omega) = s.extract F T := by
        rw [List.getElem?_eq_getElem (by rw [txt_length]; omega)] at htx; exact Option.some.inj htx
      rw [hct'] at hct
      have hMn : M ≤ 1000000 := by have := HZ.out.2; have := HR.out.2.2.2.2; omega
      have hqi : (q : Int) < (M : Int) := by omega
      have hqw : IntKind.i64.wrap ((q : Int) + 1) = ((q + 1 : Nat) : Int) := by rw [IntKind.wrap_i64]; omega
      have hps : (s.extract F T).size = T - F := by rw [ByteArray.size_extract]; omega
      have hcd := HR.out.2.2.1
      have hd6 := HR.out.2.2.2.1
      have HM := Lib.hid hM
      clear hcl hol htx hs hcn' hct' hM hF hT hfq
      obtain ⟨p, hp⟩ : ∃ p, s.extract F T = p := ⟨_, rfl⟩
      obtain ⟨X1, hX1⟩ : ∃ X1, s.extract 0 F = X1 := ⟨_, rfl⟩
      obtain ⟨X2, hX2⟩ : ∃ X2, s.extract T s.size = X2 := ⟨_, rfl⟩
      have z1 : X1.size ≤ 100000 := by rw [← hX1, ByteArray.size_extract]; omega
      have z2 : X2.size ≤ 100000 := by rw [← hX2, ByteArray.size_extract]; omega
      rw [hp] at hps hct
      rw [hX1, hX2] at hcn
      have z3 : X1.size ≤ 9223372036854775806 := by omega
      have z4 : X1.size + X2.size ≤ 9223372036854775807 := by omega
      have ew : IntKind.i64.wrap ((F : Int) + (p.size : Int)) = (T : Int) := by rw [IntKind.wrap_i64]; omega
      have ed : IntKind.i64.wrap ((d : Int) - (c : Int)) = ((d - c : Nat) : Int) := by rw [IntKind.wrap_i64]; omega
      have ed1 : IntKind.i64.wrap (((d - c : Nat) : Int) + 1) = ((d - c + 1 : Nat) : Int) := by rw [IntKind.wrap_i64]; omega
      obtain ⟨D, hD⟩ : ∃ D, D = d - c + 1 := ⟨_, rfl⟩
      obtain ⟨E, hE⟩ : ∃ E, E = d - c := ⟨_, rfl⟩
      rw [← hE] at ed ed1 hD
      rw [← hD] at ed1
      have hlast : ¬ (D : Int) < (p.size : Int) := by omega
      have hle1 : F ≤ s.size := by omega
      have hFT : F ≤ T := k1
      clear hE hD k3 hcd hd6
      go_upto_region 13 with fail
      go_region
      go_wp2_with fail
      obtain ⟨wd, hwd⟩ : ∃ wd, wd = wr.drew := ⟨_, rfl⟩
      have hbd : Below wr.heap.size wr wd := by rw [hwd]; exact drewN_below wr 1
      rw [← hwd]
      replace hr2 := cell_later hbd hr2
      replace hr4 := cell_later hbd hr4
      replace m1 := cell_later hbd m1
      replace m2 := cell_later hbd m2
      replace hco := cell_later hbd hco
      replace hcn := cell_later hbd hcn
      replace hct := cell_later hbd hct
      have HD := Lib.hid (HL.out.on hbd)
      clear hbd hwd k4 k5 k6 k7
      refine wp_region_quiet_lit (by kernel_rfl) (by kernel_rfl) ?_
      repeat (go_big_quiet_step (fail))
      refine wpQuiet_nil ?_
      rintro w9 ⟨nq, rfl⟩
      have HE := Lib.hid (HD.out.on (drewN_below _ nq))
      clear hr2 hr4 m1 m2 hco hcn hct
      go_wp2
      go_roundw
      case rel => exact ⟨q + 1, by omega, by go_num, HE.out⟩
      case measure => simp [RowKit.intOf]; omega
end Go.Proofs.Ytkddnknjjdenhaa.EdBlo
