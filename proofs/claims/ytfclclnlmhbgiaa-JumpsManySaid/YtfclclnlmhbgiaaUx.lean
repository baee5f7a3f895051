/-
  The document's Jumps: Newer, Adjust; places held against one another.
-/
import Derived.Test.YtfclclnlmhbgiaaUt
set_option linter.unusedVariables false
set_option linter.unusedSimpArgs false
set_option maxRecDepth 100000
namespace Go.Proofs.Ytfclclnlmhbgiaa.Jp
open Go Go.RowKit Go.Proofs.Ytfclclnlmhbgiaa.Vk Go.Proofs.Ytfclclnlmhbgiaa.Str Go.Proofs.Ytfclclnlmhbgiaa.Ln Go.Proofs.Ytfclclnlmhbgiaa.Cl Go.Proofs.Ytfclclnlmhbgiaa.Ml Go.Proofs.Ytfclclnlmhbgiaa.Mk Go.Shelf
attribute [local go_sem] Oper.semAt_some

set_option maxHeartbeats 2000000 in
theorem rnewer_no (j : Nat) (ps : List P2) (at' : Nat) (n : Int) (w : World) (h : Rf w j ps at') (hn : ps.length ≤ 16) (hat : at' ≤ ps.length) (hno : ¬ (1 ≤ n ∧ n < (ps.length : Int) - at')) :
    Calls Try.prog 13 #[.pointer (some ⟨j, 0, none⟩), .int .i64 n] w fun e w' => e = .returned (.tuple #[.agg #[.int .i64 0, .int .i64 0], .bool false]) ∧ Below w.heap.size w w' := by
  have hl := Rf.lt h
  obtain ⟨w1, hw1⟩ : ∃ v, v = w.alloc (.cells #[.int .i64 0, .int .i64 0] 31) := ⟨_, rfl⟩
  have hb1 : Below w.heap.size w w1 := by rw [hw1]; exact (Below.refl _ w).alloc (Nat.le_refl _) _
  have s1 : w1.heap.size = w.heap.size + 1 := by rw [hw1]; simp
  have q1 : PosAt w1 w.heap.size 0 0 := by rw [hw1]; exact PosAt.new w 0 0
  have h1 := Rf.below h hb1
  obtain ⟨bb, cc, d0⟩ := Rf.c0 h1
  have d1 := Rf.c1 h1
  have HQ1 := Lib.hid q1
  have hwr : IntKind.i64.wrap ((ps.length : Int) - (at' : Int)) = (ps.length : Int) - (at' : Int) := by rw [IntKind.wrap_i64]; omega
  clear h h1 q1
  by_cases hn1 : n < 1
  · clear hno
    go_enter Try.func13, Try.ntmps13
    go_wp2_with fail
    rw [← hw1]
    clear hw1
    have F_d0 := fun (C : World → Prop) (hC : Vs.Grows (fun _ => False) w1 C) (z : Vs.In C) => hC.cell d0 (fun e => e) z
    have F_d1 := fun (C : World → Prop) (hC : Vs.Grows (fun _ => False) w1 C) (z : Vs.In C) => hC.cell d1 (fun e => e) z
    clear d0 d1
    refine Vs.wp_region_seg (S := (fun _ => False)) [0, 1, 2, 3, 4, 5, 6, 7, 8, 9, 10, 11, 12, 13, 14, 15] [] (by kernel_rfl) (by kernel_rfl) 41 rfl (by kernel_rfl) ?_
    simp only [List.map_cons, List.map_nil, Vs.opOf_succ, Vs.opOf_zero]
    apply Exists.intro
    refine ⟨fun C hC => ?_, ?_⟩
    · haveI hI := hC.one
      have f_d0 := F_d0 C hC
      have f_d1 := F_d1 C hC
      repeat (go_big_quiet_step (fail))
      exact wpQuiet_nil rfl
    clear F_d0 F_d1
    refine Vs.wpPath_end ?_
    intro w2 hw2
    have g2 := HQ1.out.below hw2 (by omega)
    have b2 := hb1.trans (hw2.mono hb1.size)
    have HG := Lib.hid g2
    have HB := Lib.hid b2
    have z0 := g2.c0
    have z1 := g2.c1
    have zz := fun j => g2.z j
    clear g2 b2 hw2
    go_wp2
    all_goals exact ret_ps rfl rfl rfl rfl (HG.out.set 0 0) ⟨rfl, (HB.out.setCell (p := ⟨w.heap.size, 0, none⟩) (Nat.le_refl _) _).setCell (p := ⟨w.heap.size, 1, none⟩) (Nat.le_refl _) _⟩
  · have hn2 : ¬ (n < (ps.length : Int) - (at' : Int)) := by omega
    have hdn : decide (n < 1) = false := by simpa using hn1
    clear hno
    go_enter Try.func13, Try.ntmps13
    go_wp2_with fail
    rw [← hw1]
    clear hw1
    have F_d0 := fun (C : World → Prop) (hC : Vs.Grows (fun _ => False) w1 C) (z : Vs.In C) => hC.cell d0 (fun e => e) z
    have F_d1 := fun (C : World → Prop) (hC : Vs.Grows (fun _ => False) w1 C) (z : Vs.In C) => hC.cell d1 (fun e => e) z
    clear d0 d1
    refine Vs.wp_region_seg (S := (fun _ => False)) [0, 1, 2, 3, 4, 5, 6, 7, 8, 9, 10, 11, 12, 13, 14, 15] [] (by kernel_rfl) (by kernel_rfl) 41 rfl (by kernel_rfl) ?_
    simp only [List.map_cons, List.map_nil, Vs.opOf_succ, Vs.opOf_zero]
    apply Exists.intro
    refine ⟨fun C hC => ?_, ?_⟩
    · haveI hI := hC.one
      have f_d0 := F_d0 C hC
      have f_d1 := F_d1 C hC
      repeat (go_big_quiet_step (fail))
      exact wpQuiet_nil rfl
    clear F_d0 F_d1
    refine Vs.wpPath_end ?_
    intro w2 hw2
    have g2 := HQ1.out.below hw2 (by omega)
    have b2 := hb1.trans (hw2.mono hb1.size)
    have HG := Lib.hid g2
    have HB := Lib.hid b2
    have z0 := g2.c0
    have z1 := g2.c1
    have zz := fun j => g2.z j
    clear g2 b2 hw2
    go_wp2
    all_goals exact ret_ps rfl rfl rfl rfl (HG.out.set 0 0) ⟨rfl, (HB.out.setCell (p := ⟨w.heap.size, 0, none⟩) (Nat.le_refl _) _).setCell (p := ⟨w.heap.size, 1, none⟩) (Nat.le_refl _) _⟩

set_option maxHeartbeats 2000000 in
theorem rnewer_yes (j : Nat) (ps : List P2) (at' : Nat) (n : Int) (w : World) (h : Rf w j ps at') (hn : ps.length ≤ 16) (hat : at' ≤ ps.length) (hyes : 1 ≤ n ∧ n < (ps.length : Int) - at') :
    Calls Try.prog 13 #[.pointer (some ⟨j, 0, none⟩), .int .i64 n] w fun e w' => e = .returned (.tuple #[.agg #[.int .i64 (nwQ ps at' n).1, .int .i64 (nwQ ps at' n).2], .bool true]) ∧ Rf w' j ps (at' + n.toNat) ∧ Fr (fun k => k = j) w w' := by
  have hl := Rf.lt h
  obtain ⟨hy1, hy2⟩ := hyes
  obtain ⟨m, rfl⟩ : ∃ m : Nat, n = m := ⟨n.toNat, by omega⟩
  have hlt : at' + m < ps.length := by omega
  obtain ⟨q, hq⟩ : ∃ q, ps[at' + m]? = some q := ⟨_, List.getElem?_eq_getElem hlt⟩
  have hqd : nwQ ps at' m = q := by unfold nwQ; rw [Int.toNat_natCast, List.getD_eq_getElem?_getD, hq]; rfl
  rw [hqd, Int.toNat_natCast]
  obtain ⟨J, hJ⟩ : ∃ J, J = at' + m := ⟨_, rfl⟩
  have hJi : (at' : Int) + (m : Int) = (J : Int) := by omega
  have hwr2 : IntKind.i64.wrap ((at' : Int) + (m : Int)) = (J : Int) := by rw [IntKind.wrap_i64]; omega
  have hJ17 : J ≤ 17 := by omega
  have hJL : J < ps.length := by omega
  rw [← hJ] at hq ⊢
  obtain ⟨w1, hw1⟩ : ∃ v, v = w.alloc (.cells #[.int .i64 0, .int .i64 0] 31) := ⟨_, rfl⟩
  have hb1 : Below w.heap.size w w1 := by rw [hw1]; exact (Below.refl _ w).alloc (Nat.le_refl _) _
  have s1 : w1.heap.size = w.heap.size + 1 := by rw [hw1]; simp
  have q1 : PosAt w1 w.heap.size 0 0 := by rw [hw1]; exact PosAt.new w 0 0
  have h1 := Rf.below (Rf.imp h (Y := fun k => k ≠ w.heap.size) (fun k hk _ => by omega)) hb1
  obtain ⟨bb, cc, d0⟩ := Rf.c0 h1
  have d1 := Rf.c1 h1
  have HQ1 := Lib.hid q1
  have H1 := Lib.hid h1
  have HQQ := Lib.hid hq
  have hwr : IntKind.i64.wrap ((ps.length : Int) - (at' : Int)) = (ps.length : Int) - (at' : Int) := by rw [IntKind.wrap_i64]; omega
  have hn1 : ¬ ((m : Int) < 1) := by omega
  have hdn : decide ((m : Int) < 1) = false := by simp; omega
  clear h h1 q1 hq hqd hJ
  go_enter Try.func13, Try.ntmps13
  go_wp2_with fail
  rw [← hw1]
  clear hw1
  have F_d0 := fun (C : World → Prop) (hC : Vs.Grows (fun _ => False) w1 C) (z : Vs.In C) => hC.cell d0 (fun e => e) z
  have F_d1 := fun (C : World → Prop) (hC : Vs.Grows (fun _ => False) w1 C) (z : Vs.In C) => hC.cell d1 (fun e => e) z
  clear d0 d1
  refine Vs.wp_region_seg (S := (fun _ => False)) [0, 1, 2, 3, 4, 5, 6, 7, 8, 9, 10, 11, 12, 13, 14, 15] [] (by kernel_rfl) (by kernel_rfl) 41 rfl (by kernel_rfl) ?_
  simp only [List.map_cons, List.map_nil, Vs.opOf_succ, Vs.opOf_zero]
  apply Exists.intro
  refine ⟨fun C hC => ?_, ?_⟩
  · haveI hI := hC.one
    have f_d0 := F_d0 C hC
    have f_d1 := F_d1 C hC
    repeat (go_big_quiet_step (fail))
    exact wpQuiet_nil rfl
  clear F_d0 F_d1
  refine Vs.wpPath_end ?_
  intro w2 hw2
  have hb2 := hb1.trans (hw2.mono hb1.size)
  have h2 := Rf.below H1.out hw2
  have g2 := HQ1.out.below hw2 (by omega)
  have hs2 := hw2.size
  have d1 := Rf.c1 h2
  have dz := Rf.z h2 1
  have H4 := Lib.hid h2
  have HG4 := Lib.hid g2
  have HB4 := Lib.hid hb2
  clear hw2 h2 g2 hb2 H1 HQ1
  go_wp2_with fail
  obtain ⟨w5, hw5⟩ : ∃ v, v = w2.setCell ⟨j, 1, none⟩ (.int .i64 (J : Int)) := ⟨_, rfl⟩
  rw [← hw5]
  have h5 := Rf.setixN H4.out J
  rw [← hw5] at h5
  have f5 : Fr (fun k => k = j) w2 w5 := by rw [hw5]; exact fr_put (Fr.refl _ w2)
  have HG := Lib.hid (HG4.out.fr f5 (by omega))
  have HF5 := Lib.hid ((Fr.ofBelow HB4.out (fun k => k = j)).trans f5)
  have d1 := Rf.c1 h5
  have H5 := Lib.hid h5
  obtain ⟨b5, c5, r1, r2, r3⟩ := h5
  have d0 : w5.cell? ⟨j, 0, none⟩ = some (.slice b5 ps.length c5) := (cell_of_row w5 _ 0 _ _ _ r1).trans (by simp)
  obtain ⟨g5, o5, rfl, e0, e1, hnc, hcm⟩ := src_at (v := undef) r2 J q HQQ.out
  obtain ⟨q1, q2⟩ := q
  clear hw5 f5 hwr hwr2 hJi dz HG4 H4 r1 r2 r3
  have F_d0 := fun (C : World → Prop) (hC : Vs.Grows (fun _ => False) w5 C) (z : Vs.In C) => hC.cell d0 (fun e => e) z
  have F_d1 := fun (C : World → Prop) (hC : Vs.Grows (fun _ => False) w5 C) (z : Vs.In C) => hC.cell d1 (fun e => e) z
  have F_e0 := fun (C : World → Prop) (hC : Vs.Grows (fun _ => False) w5 C) (z : Vs.In C) => hC.cell e0 (fun e => e) z
  have F_e1 := fun (C : World → Prop) (hC : Vs.Grows (fun _ => False) w5 C) (z : Vs.In C) => hC.cell e1 (fun e => e) z
  clear d0 d1 e0 e1
  refine Vs.wp_region_seg (S := (fun _ => False)) [0, 1, 2, 3, 4, 5, 6, 7, 8, 9] [(10, 3), (11, 2)] (by kernel_rfl) (by kernel_rfl) 41 rfl (by kernel_rfl) ?_
  simp only [List.map_cons, List.map_nil, Vs.opOf_succ, Vs.opOf_zero]
  apply Exists.intro
  refine ⟨fun C hC => ?_, ?_⟩
  · haveI hI := hC.one
    have f_d0 := F_d0 C hC
    have f_d1 := F_d1 C hC
    have f_e0 := F_e0 C hC
    have f_e1 := F_e1 C hC
    repeat (go_big_quiet_step (fail))
    exact wpQuiet_nil rfl
  clear F_d0 F_d1 F_e0 F_e1
  refine Vs.wpPath_store rfl ?_
  intro u hu
  have g9 := HG.out.below hu HG.out.lt
  have gc0 := g9.c0
  have gc1 := g9.c1
  have gz := fun j => g9.z j
  have gs := g9.set q1 q2
  refine ⟨(u.setCell ⟨w.heap.size, 0, none⟩ (.int .i64 q1)).setCell ⟨w.heap.size, 1, none⟩ (.int .i64 q2), rfl, by simp only [Vs.opOf_succ, Vs.opOf_zero]; go_simp, ?_⟩
  simp only [Vs.opOf_succ, Vs.opOf_zero, Act.put, List.setIfInBounds_toArray, List.set_cons_zero, List.set_cons_succ]
  have hf9 : Fr (fun k => k = w.heap.size) w5 ((u.setCell ⟨w.heap.size, 0, none⟩ (.int .i64 q1)).setCell ⟨w.heap.size, 1, none⟩ (.int .i64 q2)) := fr_put (fr_put (Fr.ofBelow hu _))
  obtain ⟨v, hv⟩ : ∃ v, v = (u.setCell ⟨w.heap.size, 0, none⟩ (.int .i64 q1)).setCell ⟨w.heap.size, 1, none⟩ (.int .i64 q2) := ⟨_, rfl⟩
  rw [← hv] at gs hf9 ⊢
  clear hv g9 gc0 gc1 gz hu
  refine Vs.wpPath_free (v := .bool true) rfl rfl (fun _ => by simp only [Vs.opOf_succ, Vs.opOf_zero]; go_simp) ?_
  simp only [Vs.opOf_succ, Vs.opOf_zero, Act.put, List.setIfInBounds_toArray, List.set_cons_zero, List.set_cons_succ]
  refine Vs.wpPath_end ?_
  intro W hW
  have gs := gs.below hW gs.lt
  have hf9 := hf9.trans (Fr.ofBelow hW _)
  clear hW
  go_wp2_with fail
  have hH := Rf.fr2 H5.out hf9 (by omega) (fun k hk => hk)
  exact ret_ps rfl rfl rfl rfl gs ⟨rfl, Rf.imp hH (fun _ _ _ => trivial), (HF5.out.trans' hf9 (fun i hi e => by omega))⟩

theorem Rf.older {w : World} {j : Nat} {ps : List P2} {at' : Nat} (h : Rf w j ps at') (x y n : Int) (hn : ps.length ≤ 16) (hat : at' ≤ ps.length) :
    Calls Try.prog 11 #[.pointer (some ⟨j, 0, none⟩), .agg #[.int .i64 x, .int .i64 y], .int .i64 n] w fun e w' => e = .returned (ansV (olOk at' n) (olQ ps at' (x, y) n)) ∧ Rf w' j (if olOk at' n then olL ps at' (x, y) else ps) (if olOk at' n then olI ps at' (x, y) n else at') ∧ Fr (fun k => k = j) w w' := by
  by_cases hy : 1 ≤ n ∧ n ≤ at'
  · have ho : olOk at' n = true := by unfold olOk; simpa using hy
    rw [ho]
    exact rolder_yes j ps at' x y n w h hn hat hy
  · have ho : olOk at' n = false := by unfold olOk; simpa using hy
    rw [ho]
    exact (rolder_no j ps at' x y n w h hy).mono fun e w' ⟨h1, h2⟩ => ⟨h1, Rf.below h h2, Fr.ofBelow h2 _⟩
theorem Rf.newer {w : World} {j : Nat} {ps : List P2} {at' : Nat} (h : Rf w j ps at') (n : Int) (hn : ps.length ≤ 16) (hat : at' ≤ ps.length) :
    Calls Try.prog 13 #[.pointer (some ⟨j, 0, none⟩), .int .i64 n] w fun e w' => e = .returned (ansV (nwOk ps at' n) (nwQ ps at' n)) ∧ Rf w' j ps (if nwOk ps at' n then at' + n.toNat else at') ∧ Fr (fun k => k = j) w w' := by
  by_cases hy : 1 ≤ n ∧ n < (ps.length : Int) - at'
  · have ho : nwOk ps at' n = true := by unfold nwOk; simpa using hy
    rw [ho]
    exact rnewer_yes j ps at' n w h hn hat hy
  · have ho : nwOk ps at' n = false := by unfold nwOk; simpa using hy
    rw [ho]
    exact (rnewer_no j ps at' n w h hn hat hy).mono fun e w' ⟨h1, h2⟩ => ⟨h1, Rf.below h h2, Fr.ofBelow h2 _⟩
theorem Rf.push {w : World} {j : Nat} {ps : List P2} {at' : Nat} (h : Rf w j ps at') (x y : Int) (hn : ps.length ≤ 16) :
    Calls Try.prog 9 #[.pointer (some ⟨j, 0, none⟩), .agg #[.int .i64 x, .int .i64 y]] w fun e w' => e = .returned (.tuple #[]) ∧ Rf w' j (pshL ps (x, y)) (pshL ps (x, y)).length ∧ Fr (fun k => k = j) w w' :=
  (rpush_any j ps at' x y w h hn).mono fun e w' ⟨h1, h2, h3⟩ => ⟨h1, Rf.imp h2 (fun _ _ _ => trivial), h3⟩

set_option maxHeartbeats 2000000 in
/-- Two rows of places are held against one another. -/
theorem places_any (a : Option Addr) (n c : Nat) (x : List P2) (a' : Option Addr) (n' c' : Nat) (y : List P2) (w : World) (h : SrcV w 2 (.slice a n c) n (Ps.flat x)) (hx : n = x.length) (h' : SrcV w 2 (.slice a' n' c') n' (Ps.flat y)) (hy : n' = y.length) (hn : n ≤ 1000) (hn' : n' ≤ 1000) :
    Calls Try.prog 17 #[.slice a n c, .slice a' n' c'] w fun e w' => e = .returned (.bool (decide (x = y))) ∧ Below w.heap.size w w' := by
  by_cases he : n = n'
  · have hb : ((n : Int) != (n' : Int)) = false := by rw [he]; simp
    have HE := Lib.hid he
    have HX := Lib.hid h
    have HY := Lib.hid h'
    clear h h' he
    go_enter Try.func17, Try.ntmps17
    go_wp2_with fail
    go_loopw [5] (fun i wr => ∃ k : Nat, k ≤ n ∧ i = .int .i64 k ∧ Hid (x.take k = y.take k) ∧ Hid (Below w.heap.size w wr)) (fun i _ => n - (RowKit.intOf i).toNat)
    case atStart => exact ⟨0, Nat.zero_le _, rfl, rfl, Lib.hid (Below.refl _ _)⟩
    case round =>
      obtain ⟨k, hk, rfl, hT, HB⟩ := hrel
      by_cases hkn : k < n
      · obtain ⟨p, hp⟩ : ∃ p, x[k]? = some p := ⟨_, List.getElem?_eq_getElem (by omega)⟩
        obtain ⟨q, hq⟩ : ∃ q, y[k]? = some q := ⟨_, List.getElem?_eq_getElem (by have := HE.out; omega)⟩
        obtain ⟨g, o, rfl, e0, e1, hnc, hcm⟩ := src_at (v := undef) HX.out k p hp
        obtain ⟨g', o', rfl, f0, f1, hnc', hcm'⟩ := src_at (v := undef) HY.out k q hq
        have e0 := cell_later HB.out e0
        have e1 := cell_later HB.out e1
        have f0 := cell_later HB.out f0
        have f1 := cell_later HB.out f1
        have hkn' : k < n' := by have := HE.out; omega
        obtain ⟨p1, p2⟩ := p
        obtain ⟨q1, q2⟩ := q
        have hts : x.take (k + 1) = x.take k ++ [(p1, p2)] := by
          obtain ⟨h1, h2⟩ := List.getElem?_eq_some_iff.1 hp
          rw [take_one h1, h2]
        have hts' : y.take (k + 1) = y.take k ++ [(q1, q2)] := by
          obtain ⟨h1, h2⟩ := List.getElem?_eq_some_iff.1 hq
          rw [take_one h1, h2]
        have HP := Lib.hid hp
        have HQ := Lib.hid hq
        have HTS := Lib.hid (And.intro hts hts')
        have hne := fun W => neq_pos p1 p2 q1 q2 W
        clear hp hq hts hts'
        go_upto_region 6 with fail
        have F_e0 := fun (C : World → Prop) (hC : Vs.Grows (fun _ => False) wr C) (z : Vs.In C) => hC.cell e0 (fun e => e) z
        have F_e1 := fun (C : World → Prop) (hC : Vs.Grows (fun _ => False) wr C) (z : Vs.In C) => hC.cell e1 (fun e => e) z
        have F_f0 := fun (C : World → Prop) (hC : Vs.Grows (fun _ => False) wr C) (z : Vs.In C) => hC.cell f0 (fun e => e) z
        have F_f1 := fun (C : World → Prop) (hC : Vs.Grows (fun _ => False) wr C) (z : Vs.In C) => hC.cell f1 (fun e => e) z
        clear e0 e1 f0 f1
        refine Vs.wp_region_seg (S := (fun _ => False)) [0, 1, 2, 3, 4, 5, 6, 7, 8] [] (by kernel_rfl) (by kernel_rfl) 26 rfl (by kernel_rfl) ?_
        simp only [List.map_cons, List.map_nil, Vs.opOf_succ, Vs.opOf_zero]
        apply Exists.intro
        refine ⟨fun C hC => ?_, ?_⟩
        · haveI hI := hC.one
          have f_e0 := F_e0 C hC
          have f_e1 := F_e1 C hC
          have f_f0 := F_f0 C hC
          have f_f1 := F_f1 C hC
          repeat (go_big_quiet_step (first | (simp only [hne])))
          exact wpQuiet_nil rfl
        clear F_e0 F_e1 F_f0 F_f1
        refine Vs.wpPath_end ?_
        intro w2 hw2
        have HB2 := Lib.hid (HB.out.trans (hw2.mono HB.out.size))
        clear hw2 HB
        by_cases hpq : (p1, p2) = (q1, q2)
        · have e1 : p1 = q1 := congrArg Prod.fst hpq
          have e2 : p2 = q2 := congrArg Prod.snd hpq
          have hbb : (!decide (p1 = q1) || !decide (p2 = q2)) = false := by simp [e1, e2]
          have HPQ := Lib.hid hpq
          clear e1 e2 hpq
          rw [hbb]
          go_wp2
          go_roundw
          case rel => exact ⟨k + 1, by omega, by go_num, Lib.hid (by rw [HTS.out.1, HTS.out.2, hT.out, HPQ.out]), HB2⟩
          case measure => simp [RowKit.intOf]; omega
        · have hbb : (!decide (p1 = q1) || !decide (p2 = q2)) = true := by
            simp only [Bool.or_eq_true, Bool.not_eq_true', decide_eq_false_iff_not]
            by_cases h1 : p1 = q1
            · exact .inr (fun h2 => hpq (by rw [h1, h2]))
            · exact .inl h1
          have HPQ := Lib.hid hpq
          clear hpq
          rw [hbb]
          go_wp2
          go_ret
          refine ⟨?_, HB2.out⟩
          have hxy : x ≠ y := fun e => HPQ.out (by
            have h1 := HP.out
            have h2 := HQ.out
            rw [e] at h1
            rw [h1] at h2
            injection h2)
          rw [decide_eq_false hxy]; rfl
      · obtain rfl : k = n := by omega
        have hxy : x = y := by
          have := hT.out
          rwa [hx, List.take_length, ← hx, HE.out, hy, List.take_length] at this
        have HXY := Lib.hid hxy
        clear hxy
        go_wp2
        go_ret
        exact ⟨by rw [decide_eq_true HXY.out]; rfl, HB.out⟩
  · have hb : ((n : Int) != (n' : Int)) = true := by simpa using (show ¬ (n : Int) = n' by omega)
    have hxy : decide (x = y) = false := decide_eq_false (fun e => he (by rw [hx, hy, e]))
    rw [hxy]
    go_enter Try.func17, Try.ntmps17
    go_wp2
    go_ret
    exact ⟨rfl, Below.refl _ _⟩

set_option maxHeartbeats 4000000 in
theorem Rf.adj {w : World} {j : Nat} {ps : List P2} {at' : Nat} (h : Rf w j ps at') (a o n : Int) (hn : ps.length ≤ 16) (hat : at' ≤ ps.length) (hbd : ∀ q ∈ ps, -4611686018427387904 ≤ q.1 ∧ q.1 ≤ 4611686018427387904) :
    Calls Try.prog 15 #[.pointer (some ⟨j, 0, none⟩), .int .i64 a, .int .i64 o, .int .i64 n] w fun e w' => e = .returned (.tuple #[]) ∧ Rf w' j (adjL ps a o n) (adjN ps at' a o n) ∧ Fr (fun k => k = j) w w' := by
  obtain ⟨i0, hi0, hz0, hz1, hz2⟩ := info_parts infoP
  have hj := Rf.lt h
  obtain ⟨M, hM⟩ : ∃ M, M = ps.length := ⟨_, rfl⟩
  have hend := ix_end (fA a o n) ps at' hat
  have d1 := Rf.c1 h
  obtain ⟨b0, c0, r1, r2, r3⟩ := h
  rw [← hM] at r1 r2 r3
  have d0 : w.cell? ⟨j, 0, none⟩ = some (.slice b0 M c0) := (cell_of_row w _ 0 _ _ _ r1).trans (by simp)
  have HR := Lib.hid (And.intro r1 (And.intro r2 r3))
  have HD := Lib.hid (And.intro d0 d1)
  have HM := Lib.hid hM
  have HEND := Lib.hid hend
  have HBD := Lib.hid hbd
  clear r1 r2 r3 hM hend hbd
  go_enter Try.func15, Try.ntmps15
  go_wp2_with fail
  clear d0 d1
  go_loopw [8, 9, 10] (fun u v i wr => ∃ (k N X : Nat) (b : Option Addr) (c : Nat), k ≤ M ∧ X ≤ at' ∧ u = .slice b N c ∧ v = .int .i64 X ∧ i = .int .i64 k ∧ Hid (Jw w w.heap.size ((ps.take k).filterMap (fA a o n)) b N c wr ∧ X = ix (fA a o n) ps at' k)) (fun _ _ i _ => M - (RowKit.intOf i).toNat)
  case atStart => exact ⟨0, 0, at', none, 0, Nat.zero_le _, Nat.le_refl _, rfl, rfl, rfl, Lib.hid ⟨⟨rfl, World.ownsRow_nil _ _ _ _, Below.refl _ _⟩, (ix_zero _ _ _).symm⟩⟩
  case round =>
    obtain ⟨k, N, X, b, c, hk, hX, rfl, rfl, rfl, HW⟩ := hrel
    have hbw := HW.out.1.2.2
    have d0 := cell_later hbw HD.out.1
    have d1 := cell_later hbw HD.out.2
    have hbs := hbw.size
    by_cases hkM : k < M
    · obtain ⟨q, hq⟩ : ∃ q, ps[k]? = some q := ⟨_, List.getElem?_eq_getElem (by have := HM.out; omega)⟩
      obtain ⟨g, of, rfl, e0, e1, hnc, hcm⟩ := src_at (v := undef) HR.out.2.1 k q hq
      have hkl : k < ps.length := by have := HM.out; omega
      have hqk : ps[k] = q := by
        rw [List.getElem?_eq_getElem hkl] at hq; injection hq
      have hqb := HBD.out q (hqk ▸ List.getElem_mem hkl)
      have e0 := cell_later hbw e0
      have e1 := cell_later hbw e1
      obtain ⟨q1, q2⟩ := q
      have HK := Lib.hid hqk
      have hNM : N ≤ 16 := by
        have := HW.out.1.1
        have h1 := List.length_filterMap_le (fA a o n) (ps.take k)
        rw [List.length_take] at h1
        omega
      have hsh := fun W => shift13_any q1 a o n W hqb
      unfold shV at hsh
      obtain ⟨w2, hw2⟩ : ∃ v, v = wr.alloc (.cells #[.int .i64 q1, .int .i64 q2] 31) := ⟨_, rfl⟩
      have hb2 : Below wr.heap.size wr w2 := by rw [hw2]; exact (Below.refl _ wr).alloc (Nat.le_refl _) _
      have s2 : w2.heap.size = wr.heap.size + 1 := by rw [hw2]; simp
      have hp2 : PosAt w2 wr.heap.size q1 q2 := by rw [hw2]; exact PosAt.new _ _ _
      have HJ2 := Lib.hid (show Jw w w.heap.size ((ps.take k).filterMap (fA a o n)) b N c w2 from ⟨HW.out.1.1, (ownsRow_fr HW.out.1.2.1 (Fr.ofBelow hb2 (fun _ => False)) (by simp)), hbw.trans (hb2.mono hbs)⟩)
      have HX2 := Lib.hid HW.out.2
      have HRW := Lib.hid (show ∀ r, (Value.slice b N c).ownBlock = some r → r < wr.heap.size from fun r e => (HW.out.1.2.1.lt r e).2)
      have z0 := hp2.c0
      have z1 := hp2.c1
      have zz := fun i => hp2.z i
      have HP2 := Lib.hid hp2
      have dd0 := cell_later hb2 d0
      have dd1 := cell_later hb2 d1
      clear hq hqk hbw hqb hp2 HW hb2
      go_upto_region 6 with fail
      rw [← hw2]
      clear hw2
      cases hfe : shf q1 a o n with
      | none =>
        have hf : fA a o n ps[k] = none := by rw [HK.out]; unfold fA; rw [hfe]; rfl
        have hstep := ix_none (at' := at') hkl hf
        have hrep := rep_none hkl hf
        rw [← HX2.out] at hstep
        simp only [hfe, Option.getD_none, Option.isSome_none] at hsh
        by_cases hia : k < at'
        · rw [if_pos hia] at hstep
          obtain ⟨Y, hY⟩ : ∃ Y, Y = ix (fA a o n) ps at' (k + 1) := ⟨_, rfl⟩
          have hXY : X = Y + 1 := by omega
          subst hXY
          have hwr : IntKind.i64.wrap (((Y + 1 : Nat) : Int) - 1) = (Y : Int) := by rw [IntKind.wrap_i64]; omega
          have HF := Lib.hid (And.intro hY hrep)
          clear hf hstep hrep hY hfe
          go_wp2_with (go_at_call 27; refine (hsh _).mono ?_; rintro e w' ⟨rfl, rfl⟩)
          go_roundw
          case rel => exact ⟨k + 1, N, Y, b, c, by omega, by omega, rfl, by first | rfl | (congr 1; omega), by go_num, Lib.hid ⟨by rw [HF.out.2]; exact HJ2.out, HF.out.1⟩⟩
          case measure => simp [RowKit.intOf]; omega
        · rw [if_neg hia] at hstep
          have HF := Lib.hid (And.intro hstep hrep)
          clear hf hstep hrep hfe
          go_wp2_with (go_at_call 27; refine (hsh _).mono ?_; rintro e w' ⟨rfl, rfl⟩)
          go_roundw
          case rel => exact ⟨k + 1, N, X, b, c, by omega, by omega, rfl, rfl, by go_num, Lib.hid ⟨by rw [HF.out.2]; exact HJ2.out, HF.out.1⟩⟩
          case measure => simp [RowKit.intOf]; omega
      | some z =>
        have hf : fA a o n ps[k] = some (z, q2) := by rw [HK.out]; unfold fA; rw [hfe]; rfl
        have hstep := ix_some (at' := at') hkl hf
        have hrep := rep_some hkl hf
        rw [← HX2.out] at hstep
        simp only [hfe, Option.getD_some, Option.isSome_some] at hsh
        have HF := Lib.hid (And.intro hstep.symm hrep)
        clear hf hstep hrep hfe
        go_upto_region 11 with (go_at_call 27; refine (hsh _).mono ?_; rintro e w' ⟨rfl, rfl⟩)
        obtain ⟨w3, hw3⟩ : ∃ v, v = w2.setCell ⟨wr.heap.size, 0, none⟩ (.int .i64 z) := ⟨_, rfl⟩
        rw [← hw3]
        have hF3 : Fr (fun i => i = wr.heap.size) w2 w3 := by rw [hw3]; exact fr_put (Fr.refl _ _)
        have hp3 : PosAt w3 wr.heap.size z q2 := by
          rw [hw3]
          exact (heap_setCell_same w2 wr.heap.size 0 _ _ (.int .i64 z) HP2.out).trans (by simp)
        have s3 := hF3.size
        have HJ3 := Lib.hid (show Jw w w.heap.size ((ps.take k).filterMap (fA a o n)) b N c w3 from ⟨HJ2.out.1, ownsRow_fr HJ2.out.2.1 hF3 (fun r hr e => by have := HRW.out r hr; omega), HJ2.out.2.2.trans (hF3.below (by omega) (fun i e => by omega))⟩)
        have z0 := hp3.c0
        have z1 := hp3.c1
        clear hw3 hF3 hp3 zz
        go_wp2_with (at_builtin; go_must (refine append_srcv _ rfl _ _ 27 rfl w.heap.size VE i0 (.agg #[.int .i64 0, .int .i64 0]) 2 16 underP hi0 hz0 hz1 hz2 rfl (by decide) (.slice b N c) N (Ps.flat ((ps.take k).filterMap (fA a o n))) rfl (ownsRow_fr HJ3.out.2.1 ((Fr.refl (fun _ => False) w3).alloc _) (by simp)) (.slice (some ⟨w3.heap.size, 0, none⟩) 1 1) 1 [.int .i64 z, .int .i64 q2] rfl (Ps.SrcV.pos w3 z q2 31) (by simp only [maxLen]; omega) (by omega) (by simp only [World.size_alloc]; omega) ?_); intro b' c' w4 hown hg hnr; have HO := Lib.hid (And.intro hown hg); clear hown hg hnr)
        obtain ⟨hown, hg⟩ := HO.out
        have hN1 : N + 1 = ((ps.take (k + 1)).filterMap (fA a o n)).length := by rw [HF.out.2, List.length_append, List.length_singleton, ← HJ3.out.1]
        have hb4 : Below w.heap.size w w4 := (HJ3.out.2.2.alloc HJ3.out.2.2.size _).grown hg (by simp only [World.size_alloc]; omega) (fun r e => (HJ3.out.2.1.lt r e).1)
        have HN := Lib.hid (show Jw w w.heap.size ((ps.take (k + 1)).filterMap (fA a o n)) b' (N + 1) c' w4 from ⟨hN1, by rw [HF.out.2, Ps.flat_append]; exact hown, hb4⟩)
        clear hown hg hN1 hb4
        go_wp2
        go_roundw
        case rel => exact ⟨k + 1, N + 1, X, b', c', by omega, by omega, rfl, rfl, by go_num, Lib.hid ⟨HN.out, HF.out.1⟩⟩
        case measure => simp [RowKit.intOf]; omega
    · obtain rfl : k = M := by omega
      have hW2 : Jw w w.heap.size (adjL ps a o n) b N c wr := by have := HW.out.1; rwa [HM.out, List.take_length] at this
      have hXe : X = adjN ps at' a o n := by rw [HW.out.2, HM.out, HEND.out]; rfl
      obtain ⟨hsr, hsb⟩ := own_src hW2.2.1
      have hjr := (hbw.block j hj).trans HR.out.1
      have HS := Lib.hid (And.intro hsr (And.intro hsb (And.intro hbw (And.intro hjr hW2.1))))
      have HXE := Lib.hid hXe
      have f0 := frozen_of_row wr j 0 _ _ hjr
      have f1 := frozen_of_row wr j 1 _ _ hjr
      clear hsr hsb hjr hXe hW2 hbw
      go_wp2
      go_end0
      obtain ⟨hsr, hsb, hbw, hjr, hNe⟩ := HS.out
      obtain ⟨p1, p2⟩ := Rf.put (X := fun _ => True) hjr hNe.symm hsr (fun r hr => ⟨trivial, (hsb r hr).2⟩) X
      rw [← HXE.out]
      exact ⟨rfl, p1, (Fr.ofBelow hbw _).trans p2⟩

end Go.Proofs.Ytfclclnlmhbgiaa.Jp
