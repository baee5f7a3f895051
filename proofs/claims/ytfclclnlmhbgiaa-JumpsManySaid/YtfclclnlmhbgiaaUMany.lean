/-
  The law JumpsMany, walked.
-/
import Derived.Test.YtfclclnlmhbgiaaUbo
set_option linter.unusedVariables false
set_option linter.unusedSimpArgs false
set_option maxRecDepth 100000
namespace Go.Proofs.Ytfclclnlmhbgiaa.JMany
open Go Go.RowKit Go.Proofs.Ytfclclnlmhbgiaa.Vk Go.Proofs.Ytfclclnlmhbgiaa.Str Go.Proofs.Ytfclclnlmhbgiaa.Ln Go.Proofs.Ytfclclnlmhbgiaa.Cl Go.Proofs.Ytfclclnlmhbgiaa.Ml Go.Proofs.Ytfclclnlmhbgiaa.Mk Go.Proofs.Ytfclclnlmhbgiaa.Jp
attribute [local go_sem] Oper.semAt_some

abbrev EI : TypeId := 3
theorem infoI : (Try.prog.info? EI).map (fun i => (i.zero, i.size, i.bytes)) = some (some (.int .i64 0), 1, 8) := by kernel_rfl
theorem underI : Try.prog.underlying 46 = some (.slice EI) := by kernel_rfl
theorem below_on {a b c : World} (h : Below a.heap.size a b) (k : Below b.heap.size b c) : Below a.heap.size a c := h.trans (k.mono h.size)
/-- The lines of some places. -/
def lns (ps : List P2) : List Int := ps.map (·.1)
def cut (x : Int) (zs : List Int) : List Int := zs.filter fun z => decide (z ≠ x)
theorem lns_filter (x : Int) : ∀ ps : List P2, lns (ps.filterMap (fP x)) = cut x (lns ps)
  | [] => rfl
  | q :: ps => by
    by_cases h : q.1 = x
    · rw [List.filterMap_cons_none (show fP x q = none by unfold fP; rw [if_pos h]), lns_filter x ps]
      simp [cut, lns, h]
    · rw [List.filterMap_cons_some (show fP x q = some q by unfold fP; rw [if_neg h])]
      have := lns_filter x ps
      simp only [lns, cut, List.map_cons] at this ⊢
      rw [this, List.filter_cons_of_pos (by simpa using h)]
theorem length_lns (ps : List P2) : (lns ps).length = ps.length := by simp [lns]
theorem lns_push (ps : List P2) (x y : Int) : lns (pshL ps (x, y)) = if 16 < (cut x (lns ps) ++ [x]).length then (cut x (lns ps) ++ [x]).drop 1 else cut x (lns ps) ++ [x] := by
  have h : lns (ps.filterMap (fP x) ++ [(x, y)]) = cut x (lns ps) ++ [x] := by rw [← lns_filter]; simp [lns]
  have hl : (ps.filterMap (fP x) ++ [(x, y)]).length = (cut x (lns ps) ++ [x]).length := by rw [← h, length_lns]
  unfold pshL
  simp only [hl]
  split
  · rw [← h]; simp only [lns]; rw [List.map_drop]
  · rw [← h]
theorem cut_take_yes {x : Int} {zs : List Int} {k : Nat} (hk : k < zs.length) (h : zs[k] = x) : cut x (zs.take (k + 1)) = cut x (zs.take k) := by
  rw [List.take_succ_eq_append_getElem hk]
  simp [cut, h]
theorem cut_take_no {x : Int} {zs : List Int} {k : Nat} (hk : k < zs.length) (h : zs[k] ≠ x) : cut x (zs.take (k + 1)) = cut x (zs.take k) ++ [zs[k]] := by
  rw [List.take_succ_eq_append_getElem hk]
  unfold cut
  rw [List.filter_append, List.filter_cons_of_pos (by simpa using h)]
  rfl
/-- A row of ints, a slice of it. -/
def ints (zs : List Int) : List Value := zs.map (.int .i64)
/-- Between the rounds of the inner loop. -/
def Iw (w1 : World) (B : Nat) (L : List Int) (b : Option Addr) (N c : Nat) (wr : World) : Prop := N = L.length ∧ wr.ownsRow B EI 1 (.slice b N c) N (ints L) ∧ Below B w1 wr
/-- Between the rounds of the outer one. -/
structure Rm (w : World) (l : Nat) (ps : List P2) (b : Option Addr) (N c : Nat) (wr : World) : Prop where
  ls : LstE wr l ps ps.length
  le : ps.length ≤ 16
  src : SrcV wr 1 (.slice b N c) N (ints (lns ps))
  n : N = ps.length
  ne : ∀ r, blk (.slice b N c) = some r → r ≠ l
  bel : Below w.heap.size w wr
  hl : w.heap.size ≤ l
theorem ints_one (zs : List Int) : ∀ u ∈ ints zs, u.oneCell' = true := by
  intro u hu
  obtain ⟨_, _, rfl⟩ := List.mem_map.1 hu
  rfl

set_option maxHeartbeats 8000000 in
theorem walk (sa : Option Addr) (M cp : Nat) (zs : List Int) (w : World) (hs : SrcV w 1 (.slice sa M cp) M (zs.map (.int .u8))) (hz : ∀ z ∈ zs, (Lit.int .u8 z).wf = true) :
    Calls Try.prog 5 #[.slice sa M cp] w fun e w' => e = .returned (.bool true) ∧ Below w.heap.size w w' := by
  obtain ⟨i0, hi0, hz0, hz1, hz2⟩ := info_parts infoI
  have hk := known_any w
  have hlen : zs.length = M := by have := hs.1; simpa using this
  have HS := Lib.hid hs
  have HZ := Lib.hid hz
  have HLEN := Lib.hid hlen
  have hM63 : M ≤ 9223372036854775807 := by have := hs.2.2.1; simpa [maxLen] using this
  clear hs hz hlen
  go_enter Try.func5, Try.ntmps5
  go_wp2_with fail
  refine hk.mono ?_
  rintro e w1 ⟨rfl, hb1⟩
  have HB := Lib.hid hb1
  clear hk hb1
  by_cases h60 : 60 < M
  · go_wp2
    go_ret
    exact ⟨rfl, HB.out⟩
  go_wp2_with fail
  refine (new_e _).mono ?_
  rintro e w2 ⟨l, rfl, hl2, hb2, hlw⟩
  have HR0 : Hid (Rm w l [] none 0 0 w2) := ⟨hl2, by decide, SrcV.nil _ _, rfl, (fun r hr => by simp [blk] at hr), below_on HB.out hb2, by have := HB.out.size; omega⟩
  clear hl2 hb2 hlw
  go_wp2_with fail
  go_loopw [4, 5] (fun u i wr => ∃ (k : Nat) (ps : List P2) (b : Option Addr) (N c : Nat), k ≤ M ∧ u = .slice b N c ∧ i = .int .i64 k ∧ Hid (Rm w l ps b N c wr)) (fun _ i _ => M - (RowKit.intOf i).toNat)
  case atStart => exact ⟨0, [], none, 0, 0, Nat.zero_le _, rfl, rfl, HR0⟩
  case round =>
    obtain ⟨k, ps, b, N, c, hkM, rfl, rfl, HW⟩ := hrel
    by_cases hk : k < M
    · obtain ⟨z, hzk⟩ : ∃ z, zs[k]? = some z := ⟨_, List.getElem?_eq_getElem (by have := HLEN.out; omega)⟩
      have hzw := HZ.out z (List.mem_of_getElem? hzk)
      have hzb : 0 ≤ z ∧ z ≤ 255 := by simpa [Lit.wf, show IntKind.u8.min = 0 from rfl, show IntKind.u8.max = 255 from rfl] using hzw
      obtain ⟨g, o, rfl, e0, hcp, hcp2⟩ := HS.out.at (j := k) (u := .int .u8 z) (by rw [List.getElem?_map, hzk]; rfl)
      have HE := Lib.hid e0
      have e0 := cell_later HW.out.bel e0
      have hconv : IntKind.i64.wrap z = z := by rw [IntKind.wrap_i64]; omega
      have hnl := HW.out.n
      have hN16 : N ≤ 16 := by have := HW.out.le; omega
      clear hzk hzw
      go_wp2_with fail
      refine (HW.out.ls.push z k HW.out.le (Nat.le_refl _)).mono ?_
      rintro e A1 ⟨rfl, h1, f1⟩
      have hgw := World.block_lt_of_cell? w _ HE.out
      have hlw := HW.out.hl
      have e0 := f1.cell e0 (by simp only at hgw ⊢; omega)
      have hsw := HW.out.src.fr f1 (fun _ r hr => HW.out.ne r hr)
      have hb1 : Below w.heap.size w A1 := HW.out.bel.trans (f1.below HW.out.bel.size (fun i e => by omega))
      have HL1 := Lib.hid h1
      have HSW := Lib.hid hsw
      have HB1 := Lib.hid hb1
      have HE1 := Lib.hid e0
      have hNl : (lns ps).length = N := by rw [length_lns]; exact hnl.symm
      have HNL := Lib.hid hNl
      obtain ⟨W, hWe⟩ : ∃ W, W = lns ps := ⟨_, rfl⟩
      rw [← hWe] at HSW HNL
      have HWE := Lib.hid hWe
      clear h1 f1 hsw hb1 hNl e0 hnl hWe
      go_wp2_with fail
      go_loopw [6, 7] (fun u i wq => ∃ (q N1 : Nat) (b1 : Option Addr) (c1 : Nat), q ≤ N ∧ u = .slice b1 N1 c1 ∧ i = .int .i64 q ∧ Hid (Iw A1 A1.heap.size (cut z (W.take q)) b1 N1 c1 wq)) (fun _ i _ => N - (RowKit.intOf i).toNat)
      case atStart => exact ⟨0, 0, none, 0, Nat.zero_le _, rfl, rfl, Lib.hid ⟨rfl, World.ownsRow_nil _ _ _ _, Below.refl _ _⟩⟩
      case round =>
        obtain ⟨q, N1, b1, c1, hqN, rfl, rfl, HI⟩ := hrel
        have hbq := HI.out.2.2
        have hbqs := hbq.size
        have e0 := cell_later hbq HE1.out
        by_cases hq : q < N
        · obtain ⟨y, hy⟩ : ∃ y, W[q]? = some y := ⟨_, List.getElem?_eq_getElem (by have := HNL.out; omega)⟩
          have hqW : q < W.length := by have := HNL.out; omega
          have hWq : W[q] = y := by rw [List.getElem?_eq_getElem hqW] at hy; injection hy
          obtain ⟨g1, o1, rfl, e1, hnc1, hcm1⟩ := HSW.out.at (j := q) (u := .int .i64 y) (by unfold ints; rw [List.getElem?_map, hy]; rfl)
          have e1 := cell_later hbq e1
          have HWQ := Lib.hid hWq
          have HQW := Lib.hid hqW
          have hN1 : N1 ≤ 16 := by
            have := HI.out.1
            have h1 := List.length_filter_le (fun z' => decide (z' ≠ z)) (W.take q)
            rw [List.length_take] at h1
            unfold cut at this
            omega
          clear hy hWq hbq
          go_upto_region 15 with fail
          have HE3 := Lib.hid (And.intro e1 e0)
          have F_e0 := fun (C : World → Prop) (hC : Vs.Grows (fun _ => False) wr C) (z : Vs.In C) => hC.cell e0 (fun e => e) z
          have F_e1 := fun (C : World → Prop) (hC : Vs.Grows (fun _ => False) wr C) (z : Vs.In C) => hC.cell e1 (fun e => e) z
          clear e0 e1
          refine Vs.wp_region_seg (S := (fun _ => False)) [0, 1, 2, 3, 4, 5, 6, 7, 8, 9] [] (by kernel_rfl) (by kernel_rfl) 100 rfl (by kernel_rfl) ?_
          simp only [List.map_cons, List.map_nil, Vs.opOf_succ, Vs.opOf_zero]
          apply Exists.intro
          refine ⟨fun C hC => ?_, ?_⟩
          · haveI hI := hC.one
            have f_e0 := F_e0 C hC
            have f_e1 := F_e1 C hC
            repeat (go_big_quiet_step (fail))
            exact wpQuiet_nil rfl
          clear F_e0 F_e1
          refine Vs.wpPath_end ?_
          intro w3 hw3
          have hb3 : Below A1.heap.size A1 w3 := HI.out.2.2.trans (hw3.mono HI.out.2.2.size)
          have HI3 := Lib.hid (show Iw A1 A1.heap.size (cut z (W.take q)) b1 N1 c1 w3 from ⟨HI.out.1, ownsRow_fr HI.out.2.1 (Fr.ofBelow hw3 (fun _ => False)) (by simp), hb3⟩)
          have e1 := cell_later hw3 HE3.out.1
          have hs3 := hb3.size
          clear hw3 hb3 HI
          by_cases hyz : y = z
          · have hbb : (y != z) = false := by rw [hyz]; simp
            have hcut := cut_take_yes HQW.out (HWQ.out.trans hyz)
            have HC := Lib.hid hcut
            clear hcut hyz
            go_wp2
            go_roundw
            case rel => exact ⟨q + 1, N1, b1, c1, by omega, rfl, by go_num, by rw [HC.out]; exact HI3⟩
            case measure => simp [RowKit.intOf]; omega
          · have hbb : (y != z) = true := by simpa using hyz
            have hcut := cut_take_no HQW.out (x := z) (by rw [HWQ.out]; exact hyz)
            rw [HWQ.out] at hcut
            have HC := Lib.hid hcut
            clear hcut hyz
            go_wp2_with (at_builtin; go_must (refine append_srcv _ rfl _ _ 46 rfl A1.heap.size EI i0 (.int .i64 0) 1 8 underI hi0 hz0 hz1 hz2 rfl (by decide) (.slice b1 N1 c1) N1 (ints (cut z (W.take q))) rfl (ownsRow_fr HI3.out.2.1 ((Fr.refl (fun _ => False) w3).alloc _) (by simp)) (.slice (some ⟨w3.heap.size, 0, none⟩) 1 1) 1 [.int .i64 y] rfl (SrcV.lit w3 #[.int .i64 y] 3 1 rfl (by simp [Value.oneCell']) (by simp [maxLen])) (by simp only [maxLen]; omega) (by omega) (by simp only [World.size_alloc]; omega) ?_); intro b' c' w4 hown hg hnr; have HO := Lib.hid (And.intro hown hg); clear hown hg hnr)
            obtain ⟨hown, hg⟩ := HO.out
            have hN1' : N1 + 1 = (cut z (W.take (q + 1))).length := by rw [HC.out, List.length_append, List.length_singleton, ← HI3.out.1]
            have hb4 : Below A1.heap.size A1 w4 := (HI3.out.2.2.alloc HI3.out.2.2.size _).grown hg (by simp only [World.size_alloc]; omega) (fun r e => (HI3.out.2.1.lt r e).1)
            have HN := Lib.hid (show Iw A1 A1.heap.size (cut z (W.take (q + 1))) b' (N1 + 1) c' w4 from ⟨hN1', by rw [HC.out]; unfold ints; rw [List.map_append]; exact hown, hb4⟩)
            clear hown hg hN1' hb4
            go_wp2
            go_roundw
            case rel => exact ⟨q + 1, N1 + 1, b', c', by omega, rfl, by go_num, HN⟩
            case measure => simp [RowKit.intOf]; omega
        · obtain rfl : q = N := by omega
          have hWt : W.take q = W := by rw [← HNL.out, List.take_length]
          have HI2 := Lib.hid (show Iw A1 A1.heap.size (cut z W) b1 N1 c1 wr from by have := HI.out; rwa [hWt] at this)
          have hN1 : N1 ≤ 16 := by
            have := HI2.out.1
            have h1 := List.length_filter_le (fun z' => decide (z' ≠ z)) W
            have := HNL.out
            unfold cut at *
            omega
          clear hWt HI hbq
          go_upto_region 18 with (at_builtin; go_must (refine append_srcv _ rfl _ _ 46 rfl A1.heap.size EI i0 (.int .i64 0) 1 8 underI hi0 hz0 hz1 hz2 rfl (by decide) (.slice b1 N1 c1) N1 (ints (cut z W)) rfl (ownsRow_fr HI2.out.2.1 ((Fr.refl (fun _ => False) wr).alloc _) (by simp)) (.slice (some ⟨wr.heap.size, 0, none⟩) 1 1) 1 [.int .i64 z] rfl (SrcV.lit wr #[.int .i64 z] 3 1 rfl (by simp [Value.oneCell']) (by simp [maxLen])) (by simp only [maxLen]; omega) (by omega) (by simp only [World.size_alloc]; omega) ?_); intro b' c' w4 hown hg hnr; have HO := Lib.hid (And.intro hown hg); clear hown hg hnr)
          obtain ⟨hown, hg⟩ := HO.out
          have hsr : SrcV w4 1 (.slice b' (N1 + 1) c') (N1 + 1) (ints (cut z W ++ [z])) := by
            have := SrcV.ofOwn hown (by
              intro u hu
              rcases List.mem_append.1 hu with hu | hu
              · exact ints_one _ u hu
              · simp at hu; rw [hu]; rfl)
            unfold ints at this ⊢
            rw [List.map_append]
            exact this
          obtain ⟨gr, hbe, hgr, hcc, hcm⟩ : ∃ gr, b' = some ⟨gr, 0, none⟩ ∧ A1.heap.size ≤ gr ∧ N1 + 1 ≤ c' ∧ c' ≤ 9223372036854775807 := by
            rcases hown.2 with ⟨h, h0⟩ | ⟨gr, cap, cur, h, h1, _, h3, h4, _⟩
            · omega
            · simp only [Value.slice.injEq] at h
              obtain ⟨h5, _, h6⟩ := h
              subst h6
              exact ⟨gr, h5, h1, h3, by simpa [maxLen] using h4⟩
          subst hbe
          have hb4 : Below A1.heap.size A1 w4 := (HI2.out.2.2.alloc HI2.out.2.2.size _).grown hg (by simp only [World.size_alloc]; omega) (fun r e => (HI2.out.2.1.lt r e).1)
          have hl4 := HL1.out.below hb4
          have hbw4 : Below w.heap.size w w4 := HB1.out.trans (hb4.mono HB1.out.size)
          have hl4' : LstE w4 l (pshL ps (z, (k : Int))) (pshL ps (z, (k : Int))).length := hl4
          have hlA := HL1.out.lt
          have hpl := lns_push ps z (k : Int)
          rw [← HWE.out] at hpl
          have hcl : (cut z W ++ [z]).length = N1 + 1 := by rw [List.length_append, List.length_singleton, ← HI2.out.1]
          rw [hcl] at hpl
          have HF := Lib.hid (And.intro hsr (And.intro hbw4 (And.intro hl4' (And.intro hpl hcl))))
          clear hown hg hsr hb4 hl4 hbw4 hl4' hpl hcl HO HI2
          by_cases h16 : 16 < N1 + 1
          · have h16' : (16 : Int) < (N1 : Int) + 1 := by omega
            have hd16 : decide ((16 : Int) < (N1 : Int) + 1) = true := by simpa using h16'
            have hc1 : ¬ (c' = 1) := by omega
            go_wp2
            go_roundw
            case rel =>
              obtain ⟨hsr, hbw4, hl4, hpl, hcl⟩ := HF.out
              rw [if_pos h16] at hpl
              obtain ⟨A, hA, hsd⟩ := SrcV.drop hsr (k := 1) (by omega)
              rw [if_neg hc1] at hA
              injection hA with hA
              subst hA
              have hpn : (pshL ps (z, (k : Int))).length = N1 := by rw [← length_lns, hpl, List.length_drop, hcl]; rfl
              refine ⟨k + 1, pshL ps (z, (k : Int)), some ⟨gr, 1, none⟩, N1, c' - 1, by omega, rfl, by go_num, Lib.hid ⟨hl4, pshL_le HW.out.le, ?_, hpn.symm, fun r hr => by simp [blk] at hr; omega, hbw4, hlw⟩⟩
              rw [hpl]
              unfold ints at hsd ⊢
              rw [← List.map_drop] at hsd
              simpa using hsd
            case measure => simp [RowKit.intOf]; omega
          · have h16' : ¬ ((16 : Int) < (N1 : Int) + 1) := by omega
            have hd16 : decide ((16 : Int) < (N1 : Int) + 1) = false := by simpa using h16'
            go_wp2
            go_roundw
            case rel =>
              obtain ⟨hsr, hbw4, hl4, hpl, hcl⟩ := HF.out
              rw [if_neg h16] at hpl
              have hpn : (pshL ps (z, (k : Int))).length = N1 + 1 := by rw [← length_lns, hpl, hcl]
              refine ⟨k + 1, pshL ps (z, (k : Int)), some ⟨gr, 0, none⟩, N1 + 1, c', by omega, rfl, by go_num, Lib.hid ⟨hl4, pshL_le HW.out.le, ?_, hpn.symm, fun r hr => by simp [blk] at hr; omega, hbw4, hlw⟩⟩
              rw [hpl]
              exact hsr
            case measure => simp [RowKit.intOf]; omega
    · obtain rfl : k = M := by omega
      have hNn := HW.out.n
      have hall := HW.out.ls.all HW.out.le
      rw [← hNn] at hall
      have hN16 : N ≤ 16 := by have := HW.out.le; omega
      have HNN := Lib.hid hNn
      have HALL := Lib.hid hall
      clear hNn hall
      go_wp2_with fail
      refine HALL.out.mono ?_
      rintro e A1 ⟨b1, c1, rfl, hs1, hb1⟩
      have HS1 := Lib.hid hs1
      have HS2 := Lib.hid (HW.out.src.below hb1)
      have HB1 := Lib.hid (below_on HW.out.bel hb1)
      have hne : ((N : Int) != (N : Int)) = false := by simp
      clear hs1 hb1 HALL
      go_wp2_with fail
      go_loopw [10] (fun i wq => ∃ q : Nat, q ≤ N ∧ i = .int .i64 q ∧ Hid (Below A1.heap.size A1 wq)) (fun i _ => N - (RowKit.intOf i).toNat)
      case atStart => exact ⟨0, Nat.zero_le _, rfl, Lib.hid (Below.refl _ _)⟩
      case round =>
        obtain ⟨q, hqN, rfl, HQ⟩ := hrel
        by_cases hq : q < N
        · obtain ⟨p, hp⟩ : ∃ p, ps[q]? = some p := ⟨_, List.getElem?_eq_getElem (by have := HNN.out; omega)⟩
          obtain ⟨g1, o1, rfl, e0, e1, hnc, hcm⟩ := src_at (v := undef) HS1.out q p hp
          obtain ⟨g2, o2, rfl, f0, hnc2, hcm2⟩ := HS2.out.at (j := q) (u := .int .i64 p.1) (by unfold ints lns; rw [List.getElem?_map, List.getElem?_map, hp]; rfl)
          obtain ⟨y, y2⟩ := p
          have e0 := cell_later HQ.out e0
          have f0 := cell_later HQ.out f0
          have hyy : (y != y) = false := by simp
          clear hp e1
          go_upto_region 26 with fail
          have F_e0 := fun (C : World → Prop) (hC : Vs.Grows (fun _ => False) wr C) (z : Vs.In C) => hC.cell e0 (fun e => e) z
          have F_f0 := fun (C : World → Prop) (hC : Vs.Grows (fun _ => False) wr C) (z : Vs.In C) => hC.cell f0 (fun e => e) z
          clear e0 f0
          refine Vs.wp_region_seg (S := (fun _ => False)) [0, 1, 2, 3, 4, 5, 6, 7, 8, 9] [] (by kernel_rfl) (by kernel_rfl) 100 rfl (by kernel_rfl) ?_
          simp only [List.map_cons, List.map_nil, Vs.opOf_succ, Vs.opOf_zero]
          apply Exists.intro
          refine ⟨fun C hC => ?_, ?_⟩
          · haveI hI := hC.one
            have f_e0 := F_e0 C hC
            have f_f0 := F_f0 C hC
            repeat (go_big_quiet_step (fail))
            exact wpQuiet_nil rfl
          clear F_e0 F_f0
          refine Vs.wpPath_end ?_
          intro w3 hw3
          have HQ3 := Lib.hid (below_on HQ.out hw3)
          clear hw3 HQ
          go_wp2
          go_roundw
          case rel => exact ⟨q + 1, by omega, by go_num, HQ3⟩
          case measure => simp [RowKit.intOf]; omega
        · obtain rfl : q = N := by omega
          go_wp2
          go_ret
          exact ⟨rfl, HB1.out.trans (HQ.out.mono HB1.out.size)⟩

end Go.Proofs.Ytfclclnlmhbgiaa.JMany
