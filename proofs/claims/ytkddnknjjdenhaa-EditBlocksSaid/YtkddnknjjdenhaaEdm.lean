/-
  Package edit: remade.
-/
import Derived.Test.YtkddnknjjdenhaaEdu
import Derived.Test.YtkddnknjjdenhaaEdo
set_option linter.unusedVariables false
set_option linter.unusedSimpArgs false
set_option maxRecDepth 100000
namespace Go.Proofs.Ytkddnknjjdenhaa.Ed
open Go Go.RowKit Go.Proofs.Ytkddnknjjdenhaa.Vk Go.Proofs.Ytkddnknjjdenhaa.Str Go.Proofs.Ytkddnknjjdenhaa.Ln Go.Proofs.Ytkddnknjjdenhaa.Cl Go.Proofs.Ytkddnknjjdenhaa.Mv
attribute [local go_sem] Oper.semAt_some

def noB (_ : ByteArray) : ByteArray := ⟨#[]⟩
/-- A line in which what belongs to a range is remade. -/
def rline (G : ByteArray → ByteArray) (k fl fc tl tc : Int) (x : Nat × ByteArray) : ByteArray :=
  (x.2.extract 0 (So.colF k fl fc x.1 x.2.size).toNat ++ G (So.part k fl fc tl tc x)) ++ x.2.extract ((So.colF k fl fc x.1 x.2.size).toNat + (So.part k fl fc tl tc x).size) x.2.size
def rmd (G : ByteArray → ByteArray) (ls : List ByteArray) (k fl fc tl tc : Int) : List ByteArray := (So.enr ls fl.toNat (tl - fl + 1).toNat).map (rline G k fl fc tl tc)
theorem rmd_length (G : ByteArray → ByteArray) (ls : List ByteArray) (k fl fc tl tc : Int) : (rmd G ls k fl fc tl tc).length = (tl - fl + 1).toNat := by unfold rmd; rw [List.length_map, So.enr_length]
theorem txt_length (ls : List ByteArray) (k fl fc tl tc : Int) : (So.txt ls k fl fc tl tc).length = (tl - fl + 1).toNat := by unfold So.txt; rw [List.length_map, So.enr_length]
theorem rmd_get (G : ByteArray → ByteArray) (ls : List ByteArray) (k fl fc tl tc : Int) (i : Nat) (h : i < (tl - fl + 1).toNat) : (rmd G ls k fl fc tl tc)[i]? = some (rline G k fl fc tl tc (fl.toNat + i, lineAt ls (fl.toNat + i))) := by
  unfold rmd
  rw [List.getElem?_map, So.enr_get _ _ _ _ h]
  rfl

set_option maxHeartbeats 4000000 in
theorem remade_cut (a : Option Addr) (n c' : Nat) (ls : List ByteArray) (k fl fc tl tc : Int)  (w : World) (h : Ss w a n c' ls) (hs : ∀ s ∈ ls, s.size ≤ 140737488355328) (hz : ∀ s ∈ ls, s.size ≤ 1000000) (hv : So.vld ls k fl fc tl tc = true) (hn : n ≤ 1000000)  :
    Calls Try.prog 48 #[.slice a n c', .agg #[.int .i64 k, .int .i64 fl, .int .i64 fc, .int .i64 tl, .int .i64 tc], .func (.func 49) #[] #[]] w fun e w' =>
      ∃ (b : Option Addr) (cc : Nat), e = .returned (.slice b (rmd noB ls k fl fc tl tc).length cc) ∧ Ss w' b (rmd noB ls k fl fc tl tc).length cc (rmd noB ls k fl fc tl tc) ∧ Below w.heap.size w w' := by
  obtain ⟨i0, hi0, hz0, hz1, hz2⟩ := info_parts infoS
  have hlen := h.length
  have hvl := So.vld_lines hv
  obtain ⟨X, hX⟩ : ∃ X, X = w.alloc (.cells #[.int .i64 k, .int .i64 fl, .int .i64 fc, .int .i64 tl, .int .i64 tc] TG) := ⟨_, rfl⟩
  have hb : Below w.heap.size w X := by rw [hX]; exact one_below _ _
  have hr : RgAt X w.heap.size k fl fc tl tc := by rw [hX]; exact RgAt.new w k fl fc tl tc
  have htx := So.text_ok a n c' ls k fl fc tl tc X (SrcV.below h hb) hs hv hn
  have H := Lib.hid (And.intro (show X = w.alloc (.cells #[.int .i64 k, .int .i64 fl, .int .i64 fc, .int .i64 tl, .int .i64 tc] 48) from hX) (And.intro hb (And.intro hr (And.intro h (And.intro hv (And.intro hz hlen))))))
  obtain ⟨f, rfl⟩ : ∃ f : Nat, fl = f := ⟨fl.toNat, by omega⟩
  obtain ⟨M, hM⟩ : ∃ M, M = (tl - (f : Int) + 1).toNat := ⟨_, rfl⟩
  obtain ⟨R, hR⟩ : ∃ R, R = rmd noB ls k f fc tl tc := ⟨_, rfl⟩
  have hRl : R.length = M := by rw [hR, rmd_length, hM]
  obtain ⟨TX, hTX⟩ : ∃ TX, TX = So.txt ls k f fc tl tc := ⟨_, rfl⟩
  have hTl : TX.length = M := by rw [hTX, txt_length, hM]
  rw [← hTX, hTl] at htx
  rw [← hR, hRl]
  have HM := Lib.hid (And.intro hM (And.intro hR (And.intro hTX (And.intro hRl hTl))))
  have HVL := Lib.hid hvl
  have hM6 : M ≤ 1000000 := by omega
  clear hX hb hr h hs hv hz hM hR hTX hRl hTl hvl hlen
  go_enter Try.func48, Try.ntmps48
  go_wp2_with fail
  rw [← H.out.1]
  refine htx.mono ?_
  rintro e w1 ⟨b1, cc1, rfl, hss, hb1, _⟩
  clear htx
  have hlt1 : w.heap.size < w1.heap.size := by have := hb1.size; have := H.out.2.2.1.lt; omega
  have H1 := Lib.hid (And.intro hss (And.intro hb1 (And.intro (below_on H.out.2.1 hb1) (And.intro (H.out.2.2.1.below hb1 H.out.2.2.1.lt) (SrcV.below (SrcV.below H.out.2.2.2.1 H.out.2.1) hb1)))))
  clear hss hb1
  go_wp2
  go_loopw [7, 16] (fun u v wr => ∃ (q cc : Nat) (a : Option Addr), u = .slice a q cc ∧ v = .int .i64 q ∧ q ≤ M ∧ Hid (wr.ownsRow w1.heap.size ES 1 (.slice a q cc) q ((R.take q).map .string) ∧ Below w1.heap.size w1 wr)) (fun _ v _ => M - (RowKit.intOf v).toNat)
  case atStart => exact ⟨0, 0, none, rfl, rfl, Nat.zero_le _, World.ownsRow_nil w1 w1.heap.size ES 1, Below.refl _ _⟩
  case round =>
    obtain ⟨q, cc, b, rfl, rfl, hq, hQ⟩ := hrel
    by_cases hqM : q < M
    rotate_left
    · obtain rfl : q = M := by omega
      have hsr := SrcV.ofOwn hQ.out.1 (one_cells _)
      rw [List.take_of_length_le (by have := HM.out.2.2.2.1; omega)] at hsr
      have HF := Lib.hid (And.intro hsr (below_on H1.out.2.2.1 hQ.out.2))
      clear hsr hQ
      go_wp2
      go_ret
      exact ⟨b, cc, rfl, HF.out.1, HF.out.2⟩
    obtain ⟨hM, hR, hTX, hRl, hTl⟩ := HM.out
    have hvl := HVL.out
    have hlen := H.out.2.2.2.2.2.2
    obtain ⟨j, hj⟩ : ∃ j, j = f + q := ⟨_, rfl⟩
    have hjl : j < ls.length := by omega
    have htxg := So.txt_get ls k f fc tl tc q (by rw [← hM]; exact hqM)
    have hrmg := rmd_get noB ls k f fc tl tc q (by rw [← hM]; exact hqM)
    rw [← hTX, Int.toNat_natCast, ← hj] at htxg
    rw [← hR, Int.toNat_natCast, ← hj] at hrmg
    obtain ⟨bt, ot, rfl, hcp, _⟩ := SrcV.at (SrcV.below H1.out.1 hQ.out.2) (j := q) (u := .string (So.part k f fc tl tc (j, lineAt ls j))) (by rw [List.getElem?_map, htxg]; rfl)
    obtain ⟨bl', ol, rfl, hcl, _⟩ := Ss.read (SrcV.below H1.out.2.2.2.2 hQ.out.2) j hjl
    rw [← lineAt_get hjl] at hcl
    have hsz : (lineAt ls j).size ≤ 1000000 := by rw [lineAt_get hjl]; exact H.out.2.2.2.2.2.1 _ (List.getElem_mem hjl)
    have hbd := So.vld_cols H.out.2.2.2.2.1 j (by omega) (by omega)
    have hst := start_any k f fc tl tc q (lineAt ls j).size
    obtain ⟨s, hss⟩ : ∃ s, s = lineAt ls j := ⟨_, rfl⟩
    rw [← hss] at hcp hcl hsz hbd hst hrmg
    obtain ⟨F, hF⟩ : ∃ F : Nat, (F : Int) = So.colF k f fc j s.size := ⟨(So.colF k f fc j s.size).toNat, by omega⟩
    obtain ⟨T, hT⟩ : ∃ T : Nat, (T : Int) = So.colT k tl tc j s.size := ⟨(So.colT k tl tc j s.size).toNat, by omega⟩
    have hpt : So.part k f fc tl tc (j, s) = s.extract F T := by unfold So.part; dsimp only; rw [← hF, ← hT]; rfl
    have hFt : (So.colF k f fc j s.size).toNat = F := by omega
    have hif : (if k = 0 then (if q = 0 then fc else 0) else if k = 2 then min fc (s.size : Int) else 0) = (F : Int) := by
      rw [hF]
      unfold So.colF
      by_cases hq0 : q = 0
      · rw [if_pos hq0, if_pos (show (j : Int) = (f : Int) by omega)]
      · rw [if_neg hq0, if_neg (show ¬ (j : Int) = (f : Int) by omega)]
    simp only [hif] at hst
    rw [hpt] at hcp
    have hrl : R[q]? = some ((s.extract 0 F ++ noB (s.extract F T)) ++ s.extract (F + (s.extract F T).size) s.size) := by
      rw [hrmg]
      unfold rline
      simp only [hFt, hpt]
    rw [← hF, ← hT] at hbd
    obtain ⟨pt, hpp⟩ : ∃ pt, pt = s.extract F T := ⟨_, rfl⟩
    have hpz : pt.size = T - F := by rw [hpp, ByteArray.size_extract]; omega
    rw [← hpp] at hcp hrl
    have hgz : (noB pt).size ≤ 1000000 := by unfold noB; decide
    obtain ⟨Gp, hGp⟩ : ∃ Gp, Gp = noB pt := ⟨_, rfl⟩
    rw [← hGp] at hrl hgz
    have hFz : F + pt.size ≤ s.size := by omega
    have hFs : F ≤ s.size := by omega
    have e1 : IntKind.i64.wrap ((f : Int) + (q : Int)) = (j : Int) := by rw [IntKind.wrap_i64]; omega
    have e2 : (j : Int) < (n : Int) := by omega
    have e3 : IntKind.i64.wrap ((F : Int) + (pt.size : Int)) = ((F + pt.size : Nat) : Int) := by rw [IntKind.wrap_i64]; omega
    have e4 : IntKind.i64.wrap ((q : Int) + 1) = ((q + 1 : Nat) : Int) := by rw [IntKind.wrap_i64]; omega
    have e5 : (q : Int) < (M : Int) := by omega
    have rg := H1.out.2.2.2.1.below hQ.out.2 hlt1
    have r0 := rg.c0
    have r1 := rg.c1
    have r2 := rg.c2
    have r3 := rg.c3
    have r4 := rg.c4
    have hRn : (R.take q).map Value.string ++ [.string ((s.extract 0 F ++ Gp) ++ s.extract (F + pt.size) s.size)] = (R.take (q + 1)).map Value.string := by
      have hqr : q < R.length := by omega
      rw [List.getElem?_eq_getElem hqr] at hrl
      rw [List.take_succ_eq_append_getElem hqr, List.map_append, ← Option.some.inj hrl]
      rfl
    have HP := Lib.hid (And.intro hpp (And.intro hGp (And.intro hRn hpz)))
    have HQ := hQ
    have hst := hst wr (by omega)
    have hpz6 : pt.size ≤ 1000000 := by omega
    clear hM hR hTX hRl hTl hvl hlen hjl htxg hrmg hbd hF hT hpt hFt hif hrl hpp hGp hRn hss rg hj hQ hpz
    go_wp2_with fail
    refine hst.mono ?_
    rintro e w2 ⟨rfl, hb2⟩
    clear hst r0 r1 r2 r3 r4 hcp hcl
    go_wp2
    have own2 := ownsRow_fr HQ.out.1 (Fr.ofBelow hb2 (fun _ => False)) (fun _ _ h => h)
    have hb12 := below_on HQ.out.2 hb2
    have H2 := Lib.hid (And.intro own2 hb12)
    have hsz12 := hb12.size
    clear own2 hb12 hb2 HQ
    skip
    have F_0 := fun (C : World → Prop) (hC : Vs.Grows (fun j => w1.heap.size ≤ j) w2 C) (z : Vs.In C) => show Calls Try.prog 49 #[.string pt] z.W (fun e w' => e = .returned (.string Gp) ∧ z.W = w') from by rw [HP.out.2.1]; exact cut1_any pt z.W
    refine Vs.wp_region_seg (S := fun j => w1.heap.size ≤ j) [0, 1, 2, 3, 4, 5, 6, 7, 8, 9, 10, 11, 12, 13, 14] [(15, 1), (16, 1), (17, 2)] (by kernel_rfl) (by kernel_rfl) 53 rfl (by kernel_rfl) ?_
    simp only [List.map_cons, List.map_nil, Vs.opOf_succ, Vs.opOf_zero]
    apply Exists.intro
    refine ⟨fun C hC => ?_, ?_⟩
    · haveI hI := hC.one
      have f_0 := F_0 C hC
      repeat (go_big_quiet_step (first | (go_at_call 49; exact Vs.Calls.in_of_same hC (f_0 _))))
      exact wpQuiet_nil rfl
    clear F_0
    refine Vs.wpPath_make rfl fun u hu => ?_
    refine ⟨.slice (some ⟨u.heap.size, 0, none⟩) 1 1, u.alloc (.cells #[.string ((s.extract 0 F ++ Gp) ++ s.extract (F + pt.size) s.size)] ES), rfl, by simp only [Vs.opOf_succ, Vs.opOf_zero]; kernel_rfl, Fr.ofBelow (one_below _ _) _, ?_⟩
    simp only [Vs.opOf_succ, Vs.opOf_zero, Act.put, List.setIfInBounds_toArray, List.set_cons_zero, List.set_cons_succ]
    have hlit := lit1 u ((s.extract 0 F ++ Gp) ++ s.extract (F + pt.size) s.size)
    obtain ⟨u1, hu1⟩ : ∃ u1, u1 = u.alloc (.cells #[.string ((s.extract 0 F ++ Gp) ++ s.extract (F + pt.size) s.size)] ES) := ⟨_, rfl⟩
    obtain ⟨g1, hg1⟩ : ∃ g1, g1 = u.heap.size := ⟨_, rfl⟩
    have hbu : Below u.heap.size u u1 := by rw [hu1]; exact one_below _ _
    rw [← hu1, ← hg1] at hlit
    rw [← hu1, ← hg1]
    have hbb := below_on hu hbu
    clear hu1 hg1 hu hbu
    refine Vs.wpPath_make rfl fun u2 hu2 => ?_
    have hbb := below_on hbb hu2
    obtain ⟨b3, c3, u3, hr3, own3, hg3, _⟩ := run_append_srcv (P := Try.prog) u2 22 22 w1.heap.size ES i0 (.string ⟨#[]⟩) 1 16 underS hi0 hz0 hz1 hz2 rfl (by decide) (.slice b q cc) q _ (ownsRow_fr H2.out.1 (Fr.ofBelow hbb (fun _ => False)) (fun _ _ h => h)) _ 1 _ (SrcV.below hlit hu2) (by simp only [maxLen]; omega) (by omega) (Nat.le_trans hsz12 hbb.size)
    refine ⟨_, u3, rfl, by simp only [Vs.opOf_succ, Vs.opOf_zero]; exact exec_append rfl rfl rfl hr3, (Fr.refl _ u2).grown hg3 (fun k hk _ => (H2.out.1.lt k hk).1), ?_⟩
    simp only [Vs.opOf_succ, Vs.opOf_zero, Act.put, List.setIfInBounds_toArray, List.set_cons_zero, List.set_cons_succ]
    have HN : Hid (u3.ownsRow w1.heap.size ES 1 (.slice b3 (q + 1) c3) (q + 1) ((R.take (q + 1)).map .string) ∧ Below w1.heap.size w1 u3) := by
      refine ⟨?_, (below_on H2.out.2 hbb).grown hg3 (Nat.le_trans hsz12 hbb.size) (fun k hk => (H2.out.1.lt k hk).1)⟩
      rw [← HP.out.2.2.1]
      exact own3
    clear hr3 own3 hg3 hlit hbb hu2
    refine Vs.wpPath_free (v := .slice b3 (q + 1) c3) rfl rfl (fun W => by simp only [Vs.opOf_succ, Vs.opOf_zero]; go_simp) ?_
    simp only [Vs.opOf_succ, Vs.opOf_zero, Act.put, List.setIfInBounds_toArray, List.set_cons_zero, List.set_cons_succ]
    refine Vs.wpPath_end fun u4 hu4 => ?_
    have HN4 : Hid (u4.ownsRow w1.heap.size ES 1 (.slice b3 (q + 1) c3) (q + 1) ((R.take (q + 1)).map .string) ∧ Below w1.heap.size w1 u4) := ⟨ownsRow_fr HN.out.1 (Fr.ofBelow hu4 (fun _ => False)) (fun _ _ h => h), below_on HN.out.2 hu4⟩
    clear HN hu4
    go_wp2
    go_roundw
    case rel => exact ⟨q + 1, c3, b3, rfl, by go_num, by omega, HN4⟩
    case measure => simp [RowKit.intOf]; omega

set_option maxHeartbeats 4000000 in
theorem remade_fill (a : Option Addr) (n c' : Nat) (ls : List ByteArray) (k fl fc tl tc : Int) (pp qq : Nat) (x : UInt8) (w : World) (h : Ss w a n c' ls) (hs : ∀ s ∈ ls, s.size ≤ 140737488355328) (hz : ∀ s ∈ ls, s.size ≤ 1000000) (hv : So.vld ls k fl fc tl tc = true) (hn : n ≤ 1000000) (hqx : w.cell? ⟨qq, 0, none⟩ = some (.int .u8 (x.toNat : Int))) (hp : w.cell? ⟨pp, 0, none⟩ = some (.func (.func 53) #[] #[.pointer (some ⟨qq, 0, none⟩)])) :
    Calls Try.prog 48 #[.slice a n c', .agg #[.int .i64 k, .int .i64 fl, .int .i64 fc, .int .i64 tl, .int .i64 tc], .func (.func 62) #[] #[.pointer (some ⟨pp, 0, none⟩)]] w fun e w' =>
      ∃ (b : Option Addr) (cc : Nat), e = .returned (.slice b (rmd (mapB fun _ => x) ls k fl fc tl tc).length cc) ∧ Ss w' b (rmd (mapB fun _ => x) ls k fl fc tl tc).length cc (rmd (mapB fun _ => x) ls k fl fc tl tc) ∧ Below w.heap.size w w' := by
  obtain ⟨i0, hi0, hz0, hz1, hz2⟩ := info_parts infoS
  have hlen := h.length
  have hvl := So.vld_lines hv
  obtain ⟨X, hX⟩ : ∃ X, X = w.alloc (.cells #[.int .i64 k, .int .i64 fl, .int .i64 fc, .int .i64 tl, .int .i64 tc] TG) := ⟨_, rfl⟩
  have hb : Below w.heap.size w X := by rw [hX]; exact one_below _ _
  have hr : RgAt X w.heap.size k fl fc tl tc := by rw [hX]; exact RgAt.new w k fl fc tl tc
  have htx := So.text_ok a n c' ls k fl fc tl tc X (SrcV.below h hb) hs hv hn
  have H := Lib.hid (And.intro (show X = w.alloc (.cells #[.int .i64 k, .int .i64 fl, .int .i64 fc, .int .i64 tl, .int .i64 tc] 48) from hX) (And.intro hb (And.intro hr (And.intro h (And.intro hv (And.intro hz hlen))))))
  obtain ⟨f, rfl⟩ : ∃ f : Nat, fl = f := ⟨fl.toNat, by omega⟩
  obtain ⟨M, hM⟩ : ∃ M, M = (tl - (f : Int) + 1).toNat := ⟨_, rfl⟩
  obtain ⟨R, hR⟩ : ∃ R, R = rmd (mapB fun _ => x) ls k f fc tl tc := ⟨_, rfl⟩
  have hRl : R.length = M := by rw [hR, rmd_length, hM]
  obtain ⟨TX, hTX⟩ : ∃ TX, TX = So.txt ls k f fc tl tc := ⟨_, rfl⟩
  have hTl : TX.length = M := by rw [hTX, txt_length, hM]
  rw [← hTX, hTl] at htx
  rw [← hR, hRl]
  have HM := Lib.hid (And.intro hM (And.intro hR (And.intro hTX (And.intro hRl hTl))))
  have HVL := Lib.hid hvl
  have hM6 : M ≤ 1000000 := by omega
  clear hX hb hr h hs hv hz hM hR hTX hRl hTl hvl hlen
  go_enter Try.func48, Try.ntmps48
  go_wp2_with fail
  rw [← H.out.1]
  refine htx.mono ?_
  rintro e w1 ⟨b1, cc1, rfl, hss, hb1, _⟩
  clear htx
  have hlt1 : w.heap.size < w1.heap.size := by have := hb1.size; have := H.out.2.2.1.lt; omega
  have H1 := Lib.hid (And.intro hss (And.intro hb1 (And.intro (below_on H.out.2.1 hb1) (And.intro (H.out.2.2.1.below hb1 H.out.2.2.1.lt) (SrcV.below (SrcV.below H.out.2.2.2.1 H.out.2.1) hb1)))))
  clear hss hb1
  go_wp2
  go_loopw [7, 16] (fun u v wr => ∃ (q cc : Nat) (a : Option Addr), u = .slice a q cc ∧ v = .int .i64 q ∧ q ≤ M ∧ Hid (wr.ownsRow w1.heap.size ES 1 (.slice a q cc) q ((R.take q).map .string) ∧ Below w1.heap.size w1 wr)) (fun _ v _ => M - (RowKit.intOf v).toNat)
  case atStart => exact ⟨0, 0, none, rfl, rfl, Nat.zero_le _, World.ownsRow_nil w1 w1.heap.size ES 1, Below.refl _ _⟩
  case round =>
    obtain ⟨q, cc, b, rfl, rfl, hq, hQ⟩ := hrel
    by_cases hqM : q < M
    rotate_left
    · obtain rfl : q = M := by omega
      have hsr := SrcV.ofOwn hQ.out.1 (one_cells _)
      rw [List.take_of_length_le (by have := HM.out.2.2.2.1; omega)] at hsr
      have HF := Lib.hid (And.intro hsr (below_on H1.out.2.2.1 hQ.out.2))
      clear hsr hQ
      go_wp2
      go_ret
      exact ⟨b, cc, rfl, HF.out.1, HF.out.2⟩
    obtain ⟨hM, hR, hTX, hRl, hTl⟩ := HM.out
    have hvl := HVL.out
    have hlen := H.out.2.2.2.2.2.2
    obtain ⟨j, hj⟩ : ∃ j, j = f + q := ⟨_, rfl⟩
    have hjl : j < ls.length := by omega
    have htxg := So.txt_get ls k f fc tl tc q (by rw [← hM]; exact hqM)
    have hrmg := rmd_get (mapB fun _ => x) ls k f fc tl tc q (by rw [← hM]; exact hqM)
    rw [← hTX, Int.toNat_natCast, ← hj] at htxg
    rw [← hR, Int.toNat_natCast, ← hj] at hrmg
    obtain ⟨bt, ot, rfl, hcp, _⟩ := SrcV.at (SrcV.below H1.out.1 hQ.out.2) (j := q) (u := .string (So.part k f fc tl tc (j, lineAt ls j))) (by rw [List.getElem?_map, htxg]; rfl)
    obtain ⟨bl', ol, rfl, hcl, _⟩ := Ss.read (SrcV.below H1.out.2.2.2.2 hQ.out.2) j hjl
    rw [← lineAt_get hjl] at hcl
    have hsz : (lineAt ls j).size ≤ 1000000 := by rw [lineAt_get hjl]; exact H.out.2.2.2.2.2.1 _ (List.getElem_mem hjl)
    have hbd := So.vld_cols H.out.2.2.2.2.1 j (by omega) (by omega)
    have hst := start_any k f fc tl tc q (lineAt ls j).size
    obtain ⟨s, hss⟩ : ∃ s, s = lineAt ls j := ⟨_, rfl⟩
    rw [← hss] at hcp hcl hsz hbd hst hrmg
    obtain ⟨F, hF⟩ : ∃ F : Nat, (F : Int) = So.colF k f fc j s.size := ⟨(So.colF k f fc j s.size).toNat, by omega⟩
    obtain ⟨T, hT⟩ : ∃ T : Nat, (T : Int) = So.colT k tl tc j s.size := ⟨(So.colT k tl tc j s.size).toNat, by omega⟩
    have hpt : So.part k f fc tl tc (j, s) = s.extract F T := by unfold So.part; dsimp only; rw [← hF, ← hT]; rfl
    have hFt : (So.colF k f fc j s.size).toNat = F := by omega
    have hif : (if k = 0 then (if q = 0 then fc else 0) else if k = 2 then min fc (s.size : Int) else 0) = (F : Int) := by
      rw [hF]
      unfold So.colF
      by_cases hq0 : q = 0
      · rw [if_pos hq0, if_pos (show (j : Int) = (f : Int) by omega)]
      · rw [if_neg hq0, if_neg (show ¬ (j : Int) = (f : Int) by omega)]
    simp only [hif] at hst
    rw [hpt] at hcp
    have hrl : R[q]? = some ((s.extract 0 F ++ (mapB fun _ => x) (s.extract F T)) ++ s.extract (F + (s.extract F T).size) s.size) := by
      rw [hrmg]
      unfold rline
      simp only [hFt, hpt]
    rw [← hF, ← hT] at hbd
    obtain ⟨pt, hpp⟩ : ∃ pt, pt = s.extract F T := ⟨_, rfl⟩
    have hpz : pt.size = T - F := by rw [hpp, ByteArray.size_extract]; omega
    rw [← hpp] at hcp hrl
    have hgz : ((mapB fun _ => x) pt).size ≤ 1000000 := by rw [mapB_size]; omega
    obtain ⟨Gp, hGp⟩ : ∃ Gp, Gp = (mapB fun _ => x) pt := ⟨_, rfl⟩
    rw [← hGp] at hrl hgz
    have hFz : F + pt.size ≤ s.size := by omega
    have hFs : F ≤ s.size := by omega
    have e1 : IntKind.i64.wrap ((f : Int) + (q : Int)) = (j : Int) := by rw [IntKind.wrap_i64]; omega
    have e2 : (j : Int) < (n : Int) := by omega
    have e3 : IntKind.i64.wrap ((F : Int) + (pt.size : Int)) = ((F + pt.size : Nat) : Int) := by rw [IntKind.wrap_i64]; omega
    have e4 : IntKind.i64.wrap ((q : Int) + 1) = ((q + 1 : Nat) : Int) := by rw [IntKind.wrap_i64]; omega
    have e5 : (q : Int) < (M : Int) := by omega
    have rg := H1.out.2.2.2.1.below hQ.out.2 hlt1
    have r0 := rg.c0
    have r1 := rg.c1
    have r2 := rg.c2
    have r3 := rg.c3
    have r4 := rg.c4
    have hRn : (R.take q).map Value.string ++ [.string ((s.extract 0 F ++ Gp) ++ s.extract (F + pt.size) s.size)] = (R.take (q + 1)).map Value.string := by
      have hqr : q < R.length := by omega
      rw [List.getElem?_eq_getElem hqr] at hrl
      rw [List.take_succ_eq_append_getElem hqr, List.map_append, ← Option.some.inj hrl]
      rfl
    have HP := Lib.hid (And.intro hpp (And.intro hGp (And.intro hRn hpz)))
    have HQ := hQ
    have hst := hst wr (by omega)
    have hpz6 : pt.size ≤ 1000000 := by omega
    clear hM hR hTX hRl hTl hvl hlen hjl htxg hrmg hbd hF hT hpt hFt hif hrl hpp hGp hRn hss rg hj hQ hpz
    go_wp2_with fail
    refine hst.mono ?_
    rintro e w2 ⟨rfl, hb2⟩
    clear hst r0 r1 r2 r3 r4 hcp hcl
    go_wp2
    have own2 := ownsRow_fr HQ.out.1 (Fr.ofBelow hb2 (fun _ => False)) (fun _ _ h => h)
    have hb12 := below_on HQ.out.2 hb2
    have H2 := Lib.hid (And.intro own2 hb12)
    have hsz12 := hb12.size
    clear own2 hb12 hb2 HQ
    have hpl : pp < w.heap.size := World.block_lt_of_cell? w _ hp
    have hp2 := cell_later (below_on H1.out.2.2.1 H2.out.2) hp
    have hql : qq < w.heap.size := World.block_lt_of_cell? w _ hqx
    have hq2 := cell_later (below_on H1.out.2.2.1 H2.out.2) hqx
    have F_0 := fun (C : World → Prop) (hC : Vs.Grows (fun j => w1.heap.size ≤ j) w2 C) (z : Vs.In C) => show Calls Try.prog 62 #[.string pt, .pointer (some ⟨pp, 0, none⟩)] z.W (fun e w' => e = .returned (.string Gp) ∧ Below z.W.heap.size z.W w') from by rw [HP.out.2.1]; exact turned1_fill pt pp z.W hpz6 qq x (hC.cell hq2 (by simp only; omega) z) (hC.cell hp2 (by simp only; omega) z)
    refine Vs.wp_region_seg (S := fun j => w1.heap.size ≤ j) [0, 1, 2, 3, 4, 5, 6, 7, 8, 9, 10, 11, 12, 13, 14] [(15, 1), (16, 1), (17, 2)] (by kernel_rfl) (by kernel_rfl) 53 rfl (by kernel_rfl) ?_
    simp only [List.map_cons, List.map_nil, Vs.opOf_succ, Vs.opOf_zero]
    apply Exists.intro
    refine ⟨fun C hC => ?_, ?_⟩
    · haveI hI := hC.one
      have f_0 := F_0 C hC
      repeat (go_big_quiet_step (first | (go_at_call 62; exact Vs.Calls.in_of hC (f_0 _))))
      exact wpQuiet_nil rfl
    clear F_0
    refine Vs.wpPath_make rfl fun u hu => ?_
    refine ⟨.slice (some ⟨u.heap.size, 0, none⟩) 1 1, u.alloc (.cells #[.string ((s.extract 0 F ++ Gp) ++ s.extract (F + pt.size) s.size)] ES), rfl, by simp only [Vs.opOf_succ, Vs.opOf_zero]; kernel_rfl, Fr.ofBelow (one_below _ _) _, ?_⟩
    simp only [Vs.opOf_succ, Vs.opOf_zero, Act.put, List.setIfInBounds_toArray, List.set_cons_zero, List.set_cons_succ]
    have hlit := lit1 u ((s.extract 0 F ++ Gp) ++ s.extract (F + pt.size) s.size)
    obtain ⟨u1, hu1⟩ : ∃ u1, u1 = u.alloc (.cells #[.string ((s.extract 0 F ++ Gp) ++ s.extract (F + pt.size) s.size)] ES) := ⟨_, rfl⟩
    obtain ⟨g1, hg1⟩ : ∃ g1, g1 = u.heap.size := ⟨_, rfl⟩
    have hbu : Below u.heap.size u u1 := by rw [hu1]; exact one_below _ _
    rw [← hu1, ← hg1] at hlit
    rw [← hu1, ← hg1]
    have hbb := below_on hu hbu
    clear hu1 hg1 hu hbu
    refine Vs.wpPath_make rfl fun u2 hu2 => ?_
    have hbb := below_on hbb hu2
    obtain ⟨b3, c3, u3, hr3, own3, hg3, _⟩ := run_append_srcv (P := Try.prog) u2 22 22 w1.heap.size ES i0 (.string ⟨#[]⟩) 1 16 underS hi0 hz0 hz1 hz2 rfl (by decide) (.slice b q cc) q _ (ownsRow_fr H2.out.1 (Fr.ofBelow hbb (fun _ => False)) (fun _ _ h => h)) _ 1 _ (SrcV.below hlit hu2) (by simp only [maxLen]; omega) (by omega) (Nat.le_trans hsz12 hbb.size)
    refine ⟨_, u3, rfl, by simp only [Vs.opOf_succ, Vs.opOf_zero]; exact exec_append rfl rfl rfl hr3, (Fr.refl _ u2).grown hg3 (fun k hk _ => (H2.out.1.lt k hk).1), ?_⟩
    simp only [Vs.opOf_succ, Vs.opOf_zero, Act.put, List.setIfInBounds_toArray, List.set_cons_zero, List.set_cons_succ]
    have HN : Hid (u3.ownsRow w1.heap.size ES 1 (.slice b3 (q + 1) c3) (q + 1) ((R.take (q + 1)).map .string) ∧ Below w1.heap.size w1 u3) := by
      refine ⟨?_, (below_on H2.out.2 hbb).grown hg3 (Nat.le_trans hsz12 hbb.size) (fun k hk => (H2.out.1.lt k hk).1)⟩
      rw [← HP.out.2.2.1]
      exact own3
    clear hr3 own3 hg3 hlit hbb hu2
    refine Vs.wpPath_free (v := .slice b3 (q + 1) c3) rfl rfl (fun W => by simp only [Vs.opOf_succ, Vs.opOf_zero]; go_simp) ?_
    simp only [Vs.opOf_succ, Vs.opOf_zero, Act.put, List.setIfInBounds_toArray, List.set_cons_zero, List.set_cons_succ]
    refine Vs.wpPath_end fun u4 hu4 => ?_
    have HN4 : Hid (u4.ownsRow w1.heap.size ES 1 (.slice b3 (q + 1) c3) (q + 1) ((R.take (q + 1)).map .string) ∧ Below w1.heap.size w1 u4) := ⟨ownsRow_fr HN.out.1 (Fr.ofBelow hu4 (fun _ => False)) (fun _ _ h => h), below_on HN.out.2 hu4⟩
    clear HN hu4
    go_wp2
    go_roundw
    case rel => exact ⟨q + 1, c3, b3, rfl, by go_num, by omega, HN4⟩
    case measure => simp [RowKit.intOf]; omega

set_option maxHeartbeats 4000000 in
theorem remade_oth (a : Option Addr) (n c' : Nat) (ls : List ByteArray) (k fl fc tl tc : Int) (pp : Nat) (w : World) (h : Ss w a n c' ls) (hs : ∀ s ∈ ls, s.size ≤ 140737488355328) (hz : ∀ s ∈ ls, s.size ≤ 1000000) (hv : So.vld ls k fl fc tl tc = true) (hn : n ≤ 1000000) (hp : w.cell? ⟨pp, 0, none⟩ = some (.func (.func 44) #[] #[])) :
    Calls Try.prog 48 #[.slice a n c', .agg #[.int .i64 k, .int .i64 fl, .int .i64 fc, .int .i64 tl, .int .i64 tc], .func (.func 62) #[] #[.pointer (some ⟨pp, 0, none⟩)]] w fun e w' =>
      ∃ (b : Option Addr) (cc : Nat), e = .returned (.slice b (rmd (mapB oth) ls k fl fc tl tc).length cc) ∧ Ss w' b (rmd (mapB oth) ls k fl fc tl tc).length cc (rmd (mapB oth) ls k fl fc tl tc) ∧ Below w.heap.size w w' := by
  obtain ⟨i0, hi0, hz0, hz1, hz2⟩ := info_parts infoS
  have hlen := h.length
  have hvl := So.vld_lines hv
  obtain ⟨X, hX⟩ : ∃ X, X = w.alloc (.cells #[.int .i64 k, .int .i64 fl, .int .i64 fc, .int .i64 tl, .int .i64 tc] TG) := ⟨_, rfl⟩
  have hb : Below w.heap.size w X := by rw [hX]; exact one_below _ _
  have hr : RgAt X w.heap.size k fl fc tl tc := by rw [hX]; exact RgAt.new w k fl fc tl tc
  have htx := So.text_ok a n c' ls k fl fc tl tc X (SrcV.below h hb) hs hv hn
  have H := Lib.hid (And.intro (show X = w.alloc (.cells #[.int .i64 k, .int .i64 fl, .int .i64 fc, .int .i64 tl, .int .i64 tc] 48) from hX) (And.intro hb (And.intro hr (And.intro h (And.intro hv (And.intro hz hlen))))))
  obtain ⟨f, rfl⟩ : ∃ f : Nat, fl = f := ⟨fl.toNat, by omega⟩
  obtain ⟨M, hM⟩ : ∃ M, M = (tl - (f : Int) + 1).toNat := ⟨_, rfl⟩
  obtain ⟨R, hR⟩ : ∃ R, R = rmd (mapB oth) ls k f fc tl tc := ⟨_, rfl⟩
  have hRl : R.length = M := by rw [hR, rmd_length, hM]
  obtain ⟨TX, hTX⟩ : ∃ TX, TX = So.txt ls k f fc tl tc := ⟨_, rfl⟩
  have hTl : TX.length = M := by rw [hTX, txt_length, hM]
  rw [← hTX, hTl] at htx
  rw [← hR, hRl]
  have HM := Lib.hid (And.intro hM (And.intro hR (And.intro hTX (And.intro hRl hTl))))
  have HVL := Lib.hid hvl
  have hM6 : M ≤ 1000000 := by omega
  clear hX hb hr h hs hv hz hM hR hTX hRl hTl hvl hlen
  go_enter Try.func48, Try.ntmps48
  go_wp2_with fail
  rw [← H.out.1]
  refine htx.mono ?_
  rintro e w1 ⟨b1, cc1, rfl, hss, hb1, _⟩
  clear htx
  have hlt1 : w.heap.size < w1.heap.size := by have := hb1.size; have := H.out.2.2.1.lt; omega
  have H1 := Lib.hid (And.intro hss (And.intro hb1 (And.intro (below_on H.out.2.1 hb1) (And.intro (H.out.2.2.1.below hb1 H.out.2.2.1.lt) (SrcV.below (SrcV.below H.out.2.2.2.1 H.out.2.1) hb1)))))
  clear hss hb1
  go_wp2
  go_loopw [7, 16] (fun u v wr => ∃ (q cc : Nat) (a : Option Addr), u = .slice a q cc ∧ v = .int .i64 q ∧ q ≤ M ∧ Hid (wr.ownsRow w1.heap.size ES 1 (.slice a q cc) q ((R.take q).map .string) ∧ Below w1.heap.size w1 wr)) (fun _ v _ => M - (RowKit.intOf v).toNat)
  case atStart => exact ⟨0, 0, none, rfl, rfl, Nat.zero_le _, World.ownsRow_nil w1 w1.heap.size ES 1, Below.refl _ _⟩
  case round =>
    obtain ⟨q, cc, b, rfl, rfl, hq, hQ⟩ := hrel
    by_cases hqM : q < M
    rotate_left
    · obtain rfl : q = M := by omega
      have hsr := SrcV.ofOwn hQ.out.1 (one_cells _)
      rw [List.take_of_length_le (by have := HM.out.2.2.2.1; omega)] at hsr
      have HF := Lib.hid (And.intro hsr (below_on H1.out.2.2.1 hQ.out.2))
      clear hsr hQ
      go_wp2
      go_ret
      exact ⟨b, cc, rfl, HF.out.1, HF.out.2⟩
    obtain ⟨hM, hR, hTX, hRl, hTl⟩ := HM.out
    have hvl := HVL.out
    have hlen := H.out.2.2.2.2.2.2
    obtain ⟨j, hj⟩ : ∃ j, j = f + q := ⟨_, rfl⟩
    have hjl : j < ls.length := by omega
    have htxg := So.txt_get ls k f fc tl tc q (by rw [← hM]; exact hqM)
    have hrmg := rmd_get (mapB oth) ls k f fc tl tc q (by rw [← hM]; exact hqM)
    rw [← hTX, Int.toNat_natCast, ← hj] at htxg
    rw [← hR, Int.toNat_natCast, ← hj] at hrmg
    obtain ⟨bt, ot, rfl, hcp, _⟩ := SrcV.at (SrcV.below H1.out.1 hQ.out.2) (j := q) (u := .string (So.part k f fc tl tc (j, lineAt ls j))) (by rw [List.getElem?_map, htxg]; rfl)
    obtain ⟨bl', ol, rfl, hcl, _⟩ := Ss.read (SrcV.below H1.out.2.2.2.2 hQ.out.2) j hjl
    rw [← lineAt_get hjl] at hcl
    have hsz : (lineAt ls j).size ≤ 1000000 := by rw [lineAt_get hjl]; exact H.out.2.2.2.2.2.1 _ (List.getElem_mem hjl)
    have hbd := So.vld_cols H.out.2.2.2.2.1 j (by omega) (by omega)
    have hst := start_any k f fc tl tc q (lineAt ls j).size
    obtain ⟨s, hss⟩ : ∃ s, s = lineAt ls j := ⟨_, rfl⟩
    rw [← hss] at hcp hcl hsz hbd hst hrmg
    obtain ⟨F, hF⟩ : ∃ F : Nat, (F : Int) = So.colF k f fc j s.size := ⟨(So.colF k f fc j s.size).toNat, by omega⟩
    obtain ⟨T, hT⟩ : ∃ T : Nat, (T : Int) = So.colT k tl tc j s.size := ⟨(So.colT k tl tc j s.size).toNat, by omega⟩
    have hpt : So.part k f fc tl tc (j, s) = s.extract F T := by unfold So.part; dsimp only; rw [← hF, ← hT]; rfl
    have hFt : (So.colF k f fc j s.size).toNat = F := by omega
    have hif : (if k = 0 then (if q = 0 then fc else 0) else if k = 2 then min fc (s.size : Int) else 0) = (F : Int) := by
      rw [hF]
      unfold So.colF
      by_cases hq0 : q = 0
      · rw [if_pos hq0, if_pos (show (j : Int) = (f : Int) by omega)]
      · rw [if_neg hq0, if_neg (show ¬ (j : Int) = (f : Int) by omega)]
    simp only [hif] at hst
    rw [hpt] at hcp
    have hrl : R[q]? = some ((s.extract 0 F ++ (mapB oth) (s.extract F T)) ++ s.extract (F + (s.extract F T).size) s.size) := by
      rw [hrmg]
      unfold rline
      simp only [hFt, hpt]
    rw [← hF, ← hT] at hbd
    obtain ⟨pt, hpp⟩ : ∃ pt, pt = s.extract F T := ⟨_, rfl⟩
    have hpz : pt.size = T - F := by rw [hpp, ByteArray.size_extract]; omega
    rw [← hpp] at hcp hrl
    have hgz : ((mapB oth) pt).size ≤ 1000000 := by rw [mapB_size]; omega
    obtain ⟨Gp, hGp⟩ : ∃ Gp, Gp = (mapB oth) pt := ⟨_, rfl⟩
    rw [← hGp] at hrl hgz
    have hFz : F + pt.size ≤ s.size := by omega
    have hFs : F ≤ s.size := by omega
    have e1 : IntKind.i64.wrap ((f : Int) + (q : Int)) = (j : Int) := by rw [IntKind.wrap_i64]; omega
    have e2 : (j : Int) < (n : Int) := by omega
    have e3 : IntKind.i64.wrap ((F : Int) + (pt.size : Int)) = ((F + pt.size : Nat) : Int) := by rw [IntKind.wrap_i64]; omega
    have e4 : IntKind.i64.wrap ((q : Int) + 1) = ((q + 1 : Nat) : Int) := by rw [IntKind.wrap_i64]; omega
    have e5 : (q : Int) < (M : Int) := by omega
    have rg := H1.out.2.2.2.1.below hQ.out.2 hlt1
    have r0 := rg.c0
    have r1 := rg.c1
    have r2 := rg.c2
    have r3 := rg.c3
    have r4 := rg.c4
    have hRn : (R.take q).map Value.string ++ [.string ((s.extract 0 F ++ Gp) ++ s.extract (F + pt.size) s.size)] = (R.take (q + 1)).map Value.string := by
      have hqr : q < R.length := by omega
      rw [List.getElem?_eq_getElem hqr] at hrl
      rw [List.take_succ_eq_append_getElem hqr, List.map_append, ← Option.some.inj hrl]
      rfl
    have HP := Lib.hid (And.intro hpp (And.intro hGp (And.intro hRn hpz)))
    have HQ := hQ
    have hst := hst wr (by omega)
    have hpz6 : pt.size ≤ 1000000 := by omega
    clear hM hR hTX hRl hTl hvl hlen hjl htxg hrmg hbd hF hT hpt hFt hif hrl hpp hGp hRn hss rg hj hQ hpz
    go_wp2_with fail
    refine hst.mono ?_
    rintro e w2 ⟨rfl, hb2⟩
    clear hst r0 r1 r2 r3 r4 hcp hcl
    go_wp2
    have own2 := ownsRow_fr HQ.out.1 (Fr.ofBelow hb2 (fun _ => False)) (fun _ _ h => h)
    have hb12 := below_on HQ.out.2 hb2
    have H2 := Lib.hid (And.intro own2 hb12)
    have hsz12 := hb12.size
    clear own2 hb12 hb2 HQ
    have hpl : pp < w.heap.size := World.block_lt_of_cell? w _ hp
    have hp2 := cell_later (below_on H1.out.2.2.1 H2.out.2) hp
    have F_0 := fun (C : World → Prop) (hC : Vs.Grows (fun j => w1.heap.size ≤ j) w2 C) (z : Vs.In C) => show Calls Try.prog 62 #[.string pt, .pointer (some ⟨pp, 0, none⟩)] z.W (fun e w' => e = .returned (.string Gp) ∧ Below z.W.heap.size z.W w') from by rw [HP.out.2.1]; exact turned1_oth pt pp z.W hpz6 (hC.cell hp2 (by simp only; omega) z)
    refine Vs.wp_region_seg (S := fun j => w1.heap.size ≤ j) [0, 1, 2, 3, 4, 5, 6, 7, 8, 9, 10, 11, 12, 13, 14] [(15, 1), (16, 1), (17, 2)] (by kernel_rfl) (by kernel_rfl) 53 rfl (by kernel_rfl) ?_
    simp only [List.map_cons, List.map_nil, Vs.opOf_succ, Vs.opOf_zero]
    apply Exists.intro
    refine ⟨fun C hC => ?_, ?_⟩
    · haveI hI := hC.one
      have f_0 := F_0 C hC
      repeat (go_big_quiet_step (first | (go_at_call 62; exact Vs.Calls.in_of hC (f_0 _))))
      exact wpQuiet_nil rfl
    clear F_0
    refine Vs.wpPath_make rfl fun u hu => ?_
    refine ⟨.slice (some ⟨u.heap.size, 0, none⟩) 1 1, u.alloc (.cells #[.string ((s.extract 0 F ++ Gp) ++ s.extract (F + pt.size) s.size)] ES), rfl, by simp only [Vs.opOf_succ, Vs.opOf_zero]; kernel_rfl, Fr.ofBelow (one_below _ _) _, ?_⟩
    simp only [Vs.opOf_succ, Vs.opOf_zero, Act.put, List.setIfInBounds_toArray, List.set_cons_zero, List.set_cons_succ]
    have hlit := lit1 u ((s.extract 0 F ++ Gp) ++ s.extract (F + pt.size) s.size)
    obtain ⟨u1, hu1⟩ : ∃ u1, u1 = u.alloc (.cells #[.string ((s.extract 0 F ++ Gp) ++ s.extract (F + pt.size) s.size)] ES) := ⟨_, rfl⟩
    obtain ⟨g1, hg1⟩ : ∃ g1, g1 = u.heap.size := ⟨_, rfl⟩
    have hbu : Below u.heap.size u u1 := by rw [hu1]; exact one_below _ _
    rw [← hu1, ← hg1] at hlit
    rw [← hu1, ← hg1]
    have hbb := below_on hu hbu
    clear hu1 hg1 hu hbu
    refine Vs.wpPath_make rfl fun u2 hu2 => ?_
    have hbb := below_on hbb hu2
    obtain ⟨b3, c3, u3, hr3, own3, hg3, _⟩ := run_append_srcv (P := Try.prog) u2 22 22 w1.heap.size ES i0 (.string ⟨#[]⟩) 1 16 underS hi0 hz0 hz1 hz2 rfl (by decide) (.slice b q cc) q _ (ownsRow_fr H2.out.1 (Fr.ofBelow hbb (fun _ => False)) (fun _ _ h => h)) _ 1 _ (SrcV.below hlit hu2) (by simp only [maxLen]; omega) (by omega) (Nat.le_trans hsz12 hbb.size)
    refine ⟨_, u3, rfl, by simp only [Vs.opOf_succ, Vs.opOf_zero]; exact exec_append rfl rfl rfl hr3, (Fr.refl _ u2).grown hg3 (fun k hk _ => (H2.out.1.lt k hk).1), ?_⟩
    simp only [Vs.opOf_succ, Vs.opOf_zero, Act.put, List.setIfInBounds_toArray, List.set_cons_zero, List.set_cons_succ]
    have HN : Hid (u3.ownsRow w1.heap.size ES 1 (.slice b3 (q + 1) c3) (q + 1) ((R.take (q + 1)).map .string) ∧ Below w1.heap.size w1 u3) := by
      refine ⟨?_, (below_on H2.out.2 hbb).grown hg3 (Nat.le_trans hsz12 hbb.size) (fun k hk => (H2.out.1.lt k hk).1)⟩
      rw [← HP.out.2.2.1]
      exact own3
    clear hr3 own3 hg3 hlit hbb hu2
    refine Vs.wpPath_free (v := .slice b3 (q + 1) c3) rfl rfl (fun W => by simp only [Vs.opOf_succ, Vs.opOf_zero]; go_simp) ?_
    simp only [Vs.opOf_succ, Vs.opOf_zero, Act.put, List.setIfInBounds_toArray, List.set_cons_zero, List.set_cons_succ]
    refine Vs.wpPath_end fun u4 hu4 => ?_
    have HN4 : Hid (u4.ownsRow w1.heap.size ES 1 (.slice b3 (q + 1) c3) (q + 1) ((R.take (q + 1)).map .string) ∧ Below w1.heap.size w1 u4) := ⟨ownsRow_fr HN.out.1 (Fr.ofBelow hu4 (fun _ => False)) (fun _ _ h => h), below_on HN.out.2 hu4⟩
    clear HN hu4
    go_wp2
    go_roundw
    case rel => exact ⟨q + 1, c3, b3, rfl, by go_num, by omega, HN4⟩
    case measure => simp [RowKit.intOf]; omega
end Go.Proofs.Ytkddnknjjdenhaa.Ed
