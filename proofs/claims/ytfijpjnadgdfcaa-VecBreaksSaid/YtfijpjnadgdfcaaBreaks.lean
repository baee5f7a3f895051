/-
  The law VecBreaks, walked.
-/
import Derived.Test.YtfijpjnadgdfcaaAll
import Derived.Test.YtfijpjnadgdfcaaKnown
set_option linter.unusedVariables false
namespace Go.Proofs.Ytfijpjnadgdfcaa.Breaks
open Go Go.RowKit Go.Proofs.Ytfijpjnadgdfcaa.Vk Go.Shelf
open VecI (E infoE underS)
attribute [local go_sem] Oper.semAt_some

theorem long (lb : Option Addr) (n lc : Nat) (a1 : Int) (w : World) (hl : n ≤ 9223372036854775807) (h : 60 < n) :
    Calls Try.prog 5 #[.slice lb n lc, .int .u8 a1] w fun e w' => e = .returned (.bool true) ∧ Below w.heap.size w w' := by
  go_enter Try.func5, Try.ntmps5
  go_wp2_with (go_at_call 8; refine (VecI.known_any _).mono ?_; rintro e w1 ⟨rfl, hb⟩)
  go_ret
  exact ⟨rfl, hb⟩

set_option maxHeartbeats 4000000 in
set_option maxRecDepth 100000 in
theorem short (lb : Option Addr) (n lc : Nat) (zs : List Int) (a1 : Int) (w : World) (hs : SrcV w 1 (.slice lb n lc) n (zs.map (.int .i64))) (hn : n ≤ 60) (ha : 0 ≤ a1 ∧ a1 ≤ 255) :
    Calls Try.prog 5 #[.slice lb n lc, .int .u8 a1] w fun e w' => e = .returned (.bool true) ∧ Below w.heap.size w w' := by
  obtain ⟨ha0, ha1⟩ := ha
  have hd : decide (60 < (n : Int)) = false := by simp; omega
  have he := VecI.eqf
  refine (callsIn_wide (n := 9)).1 ?_
  refine callsIn_of_wp_marks Try.func5 rfl trivial ?_ rfl
  simp only [Try.ntmps5, List.size_toArray, List.length_cons, List.length_nil, Nat.reduceAdd, Nat.reduceSub, Array.replicate_succ, Array.replicate_zero, List.push_toArray, List.append_toArray, List.nil_append, List.cons_append]
  refine wpIn_mono (Q := noPanic _) ?_ (noPanic_out _)
  gi_wp2_with (refine ⟨trivial, ?_⟩; gi_at_call 8; refine (callsIn_wide.2 (VecI.known_any _)).mono ?_; rintro e w1 ⟨rfl, hb1⟩)
  refine ⟨trivial, ?_⟩
  refine (callsIn_wide.2 (VecI.new_any _ n _ w1 (hs.below hb1) (by omega))).mono ?_
  rintro e w2 ⟨p, r, rfl, hv, hb2⟩
  have hb2 := hb1.trans (hb2.mono hb1.size)
  have hv := hv.mono hb1.size
  have HV := Lib.hid hv
  have HB := Lib.hid hb2
  have hw2 := hb2.size
  clear hv hb1 hb2
  gi_wp2_with (first
    | (refine ⟨trivial, ?_⟩; gi_at_call 20; refine (callsIn_wide.2 (VecI.all_new _ _)).mono ?_; rintro e w' ⟨rfl, rfl⟩)
    | (refine ⟨trivial, ?_⟩; gi_at_call 21; refine (callsIn_wide.2 (VecI.back_new _ _)).mono ?_; rintro e w' ⟨rfl, rfl⟩))
  -- THE LOOPS
  obtain ⟨m, hm⟩ : ∃ m : Nat, (m : Int) = a1 % 20 + 1 := ⟨(a1 % 20 + 1).toNat, by omega⟩
  have hm0 : 0 < m := by omega
  have hm20 : m ≤ 20 := by omega
  have hm' : a1 % 20 + 1 = (m : Int) := hm.symm
  rw [hm']
  obtain ⟨W4, hW4⟩ : ∃ W4, W4 = (((w2.alloc (.cells #[.pointer (some ⟨p, 0, none⟩)] 25)).alloc (.cells #[.func (.func 29) #[] #[]] 60)).alloc (.cells #[.pointer (some ⟨p, 0, none⟩)] 25)).alloc (.cells #[.func (.func 30) #[] #[]] 60) := ⟨_, rfl⟩
  refine name_world ?_
  intro Wi hWi
  have hWi : Wi = (W4.alloc (.cells #[.int .i64 m] 3)).alloc (.cells #[.int .i64 0] 3) := by rw [hWi, hW4]
  clear hm hm'
  have s4 : W4.heap.size = w2.heap.size + 4 := by rw [hW4]; simp
  have b4 : Below w2.heap.size w2 W4 := by
    rw [hW4]
    exact ((((Below.refl _ w2).alloc (Nat.le_refl _) _).alloc (by simp only [World.size_alloc]; omega) _).alloc (by simp only [World.size_alloc]; omega) _).alloc (by simp only [World.size_alloc]; omega) _
  have c0 : W4.cell? ⟨w2.heap.size, 0, none⟩ = some (.pointer (some ⟨p, 0, none⟩)) := (cell_of_row W4 _ 0 _ _ _ (by rw [hW4]; simp only [heap_alloc_if, World.size_alloc]; repeat (first | rw [if_pos trivial] | rw [if_pos (by omega)] | rw [if_neg (by omega)]))).trans (by simp)
  have c1 : W4.cell? ⟨w2.heap.size + 1, 0, none⟩ = some (.func (.func 29) #[] #[]) := (cell_of_row W4 _ 0 _ _ _ (by rw [hW4]; simp only [heap_alloc_if, World.size_alloc]; repeat (first | rw [if_pos trivial] | rw [if_pos (by omega)] | rw [if_neg (by omega)]))).trans (by simp)
  have c2 : W4.cell? ⟨w2.heap.size + 2, 0, none⟩ = some (.pointer (some ⟨p, 0, none⟩)) := (cell_of_row W4 _ 0 _ _ _ (by rw [hW4]; simp only [heap_alloc_if, World.size_alloc]; repeat (first | rw [if_pos trivial] | rw [if_pos (by omega)] | rw [if_neg (by omega)]))).trans (by simp)
  have c3 : W4.cell? ⟨w2.heap.size + 3, 0, none⟩ = some (.func (.func 30) #[] #[]) := (cell_of_row W4 _ 0 _ _ _ (by rw [hW4]; simp only [heap_alloc_if, World.size_alloc]; repeat (first | rw [if_pos trivial] | rw [if_pos (by omega)] | rw [if_neg (by omega)]))).trans (by simp)
  have hv4 := HV.out.fr (Fr.ofBelow b4 (fun _ => False)) (by simp) (by simp)
  have bi4 : Below W4.heap.size W4 Wi := by rw [hWi]; exact ((Below.refl _ W4).alloc (Nat.le_refl _) _).alloc (by simp) _
  have bi4' : Below (w2.heap.size + 4) W4 Wi := by have := bi4; rwa [s4] at this
  have bi : Below w2.heap.size w2 Wi := b4.trans (bi4.mono (by omega))
  have si : Wi.heap.size = w2.heap.size + 6 := by rw [hWi]; simp; omega
  have e4 : Wi.heap[w2.heap.size + 4]? = some (.cells #[.int .i64 (m : Int)] 3 (0, 0)) := by rw [hWi]; simp only [heap_alloc_if, World.size_alloc, s4]; repeat (first | rw [if_pos trivial] | rw [if_pos (by omega)] | rw [if_neg (by omega)])
  have e5 : Wi.heap[w2.heap.size + 5]? = some (.cells #[.int .i64 ((([] : List (Nat × Int)).length : Nat) : Int)] 3 (0, 0)) := by rw [hWi]; simp only [heap_alloc_if, World.size_alloc, s4]; repeat (first | rw [if_pos trivial] | rw [if_pos (by omega)] | rw [if_neg (by omega)]); rfl
  have iter1 := VecI.all_iter w.heap.size p (w2.heap.size + 1) w2.heap.size r n zs W4 hv4 (by omega) c1 c0
  have iter2 := VecI.back_iter w.heap.size p (w2.heap.size + 3) (w2.heap.size + 2) r n zs W4 hv4 (by omega) c3 c2
  have hbw : Below w.heap.size w Wi := HB.out.trans (bi.mono hw2)
  have facts : ∀ V, Below (w2.heap.size + 5) Wi V → V.cell? ⟨w2.heap.size + 4, 0, none⟩ = some (.int .i64 (m : Int)) ∧ IsVec V w.heap.size 52 E 1 p r n (zs.map (.int .i64)) ∧ SrcV V 1 (.slice lb n lc) n (zs.map (.int .i64)) := fun V hV =>
    ⟨(cell_of_row V _ 0 _ _ _ ((hV.block _ (by omega)).trans e4)).trans (by simp), HV.out.fr (Fr.ofBelow (bi.trans (hV.mono (by omega))) (fun _ => False)) (by simp) (by simp), hs.below (hbw.trans (hV.mono (by omega)))⟩
  have HF := Lib.hid facts
  clear facts hWi hW4 c0 c1 c2 c3 e4 hv4 b4
  refine rangeFunc_iter (by omega) (gf := 35) (lb := #[.pointer (some ⟨w2.heap.size + 1, 0, none⟩), .pointer (some ⟨w2.heap.size, 0, none⟩)]) rfl (enters_of Try.func35 (by kernel_rfl) rfl) iter1
    (fun h1 h2 => h1.trans h2) (belowK (by omega)) bi4 (fun _ => rfl)
    (fun pre V => Below (w2.heap.size + 5) Wi V ∧ V.heap[w2.heap.size + 5]? = some (.cells #[.int .i64 (pre.length : Int)] 3 (0, 0)) ∧ pre.length < m)
    (fun c pre V => c = .exit 0 ∧ Below (w2.heap.size + 5) Wi V ∧ V.heap[w2.heap.size + 5]? = some (.cells #[.int .i64 (pre.length : Int)] 3 (0, 0)) ∧ pre.length = m) ?hI ?hIx ⟨Below.refl _ _, e5, hm0⟩ ?round ?done ?stop
  case hI =>
    refine OwnFrom.and ?_ (OwnFrom.and ?_ (ownFrom_pure _ _))
    · exact fun s A B row hs hg hr => hs.grown hg (by have := hs.size; omega) (fun k e => by have := (hr k e).1; omega)
    · exact fun s A B row hs hg hr => (hg.block _ (Array.getElem?_eq_some_iff.1 hs).1 (fun e => by have := (hr _ e.symm).1; omega)).trans hs
  case hIx =>
    exact fun c s A B row hs hg hr => ⟨hs.1, hs.2.1.grown hg (by have := hs.2.1.size; omega) (fun k e => by have := (hr k e).1; omega), (hg.block _ (Array.getElem?_eq_some_iff.1 hs.2.2.1).1 (fun e => by have := (hr _ e.symm).1; omega)).trans hs.2.2.1, hs.2.2.2⟩
  case round =>
    rintro l' pre x V0 ⟨rest, hpr⟩ _ hi0
    gi_wp2
    refine ⟨Keep.refl _ _ _, Below.refl _ _, hi0, ?_⟩
    rintro V - - - hsz ⟨hB, hbx, hlt⟩
    clear hi0
    have fm := (HF.out V hB).1
    have fn : V.cell? ⟨w2.heap.size + 5, 0, none⟩ = some (.int .i64 (pre.length : Int)) := (cell_of_row V _ 0 _ _ _ hbx).trans (by simp)
    have ff : V.frozen? ⟨w2.heap.size + 5, 0, none⟩ = false := frozen_of_row V _ 0 _ _ hbx
    have HX := Lib.hid hbx
    have HBV := Lib.hid hB
    have fin : (V.setCell ⟨w2.heap.size + 5, 0, none⟩ (.int .i64 ((pre.length : Int) + 1))).heap[w2.heap.size + 5]? = some (.cells #[.int .i64 (((pre ++ [x]).length : Nat) : Int)] 3 (0, 0)) := by
      have := heap_setCell_same V (w2.heap.size + 5) 0 _ _ (.int .i64 ((pre.length : Int) + 1)) hbx
      refine Eq.trans this ?_
      rw [List.length_append, List.length_singleton]
      simp
    have FIN := Lib.hid fin
    clear hbx hB hpr fin
    by_cases hlast : pre.length + 1 < m
    · gi_wp2
      exact ⟨(Keep.refl _ _ _).setCell (.inl (by show w2.heap.size + 5 < _; omega)) _, (Below.refl _ _).setCell (p := ⟨w2.heap.size + 5, 0, none⟩) (by show _ ≤ w2.heap.size + 5; omega) _, HBV.out.setCell (p := ⟨w2.heap.size + 5, 0, none⟩) (Nat.le_refl _) _, FIN.out, by simp; omega⟩
    · gi_wp2
      exact ⟨(Keep.refl _ _ _).setCell (.inl (by show w2.heap.size + 5 < _; omega)) _, rfl, HBV.out.setCell (p := ⟨w2.heap.size + 5, 0, none⟩) (Nat.le_refl _) _, FIN.out, by simp; omega⟩
  case done =>
    rintro D1 V1 hD1 ⟨B1, hg1, hlt1⟩ hk1
    have hl1 : ((List.range n).map fun k => (k, zs.getD k 0)).length = n := by simp
    rw [hl1] at hg1 hlt1
    obtain ⟨g, hg⟩ : ∃ g, g = n := ⟨_, rfl⟩
    rw [← hg] at hg1
    have hgm : g ≤ m ∧ g ≤ n ∧ (g = m ∨ g = n) := by omega
    clear hg hl1
    have hs1 : w2.heap.size + 6 ≤ V1.heap.size := by have := B1.size; omega
    have hD1V : D1 < V1.heap.size := (Array.getElem?_eq_some_iff.1 hk1).1
    have HG1 := Lib.hid hg1
    have HD1 := Lib.hid hk1
    have fm1 := (HF.out V1 B1).1
    have HB1 := Lib.hid B1
    clear hg1 hk1 B1
    have hmin : min (m : Int) (n : Int) = (g : Int) := by omega
    gi_wp2
    refine name_world ?_
    intro Wj hWj
    have hWj : Wj = V1.alloc (.cells #[.int .i64 0] 3) := hWj
    have sj : Wj.heap.size = V1.heap.size + 1 := by rw [hWj]; simp
    have bj : Below V1.heap.size V1 Wj := by rw [hWj]; exact (Below.refl _ V1).alloc (Nat.le_refl _) _
    have ej : Wj.heap[V1.heap.size]? = some (.cells #[.int .i64 ((([] : List (Nat × Int)).length : Nat) : Int)] 3 (0, 0)) := by rw [hWj]; exact heap_alloc_new V1 _
    clear hWj
    refine rangeFunc_iter (by omega) (gf := 35) (lb := #[.pointer (some ⟨w2.heap.size + 3, 0, none⟩), .pointer (some ⟨w2.heap.size + 2, 0, none⟩)]) rfl (enters_of Try.func35 (by kernel_rfl) rfl) iter2
      (fun h1 h2 => h1.trans h2) (belowK (by omega)) (by rw [s4]; exact bi4'.trans ((HB1.out.mono (by omega)).trans (bj.mono (by omega)))) (fun _ => rfl)
      (fun pre V => Below V1.heap.size V1 V ∧ V.heap[V1.heap.size]? = some (.cells #[.int .i64 (pre.length : Int)] 3 (0, 0)) ∧ pre.length < m)
      (fun c pre V => c = .exit 2 ∧ Below V1.heap.size V1 V ∧ V.heap[V1.heap.size]? = some (.cells #[.int .i64 (pre.length : Int)] 3 (0, 0)) ∧ pre.length = m) ?hI2 ?hIx2 ⟨bj, ej, hm0⟩ ?round2 ?done2 ?stop2
    case hI2 =>
      refine OwnFrom.and ?_ (OwnFrom.and ?_ (ownFrom_pure _ _))
      · exact fun s A B row hs hg hr => hs.grown hg hs.size (fun k e => by have := (hr k e).1; omega)
      · exact fun s A B row hs hg hr => (hg.block _ (Array.getElem?_eq_some_iff.1 hs).1 (fun e => by have := (hr _ e.symm).1; omega)).trans hs
    case hIx2 =>
      exact fun c s A B row hs hg hr => ⟨hs.1, hs.2.1.grown hg hs.2.1.size (fun k e => by have := (hr k e).1; omega), (hg.block _ (Array.getElem?_eq_some_iff.1 hs.2.2.1).1 (fun e => by have := (hr _ e.symm).1; omega)).trans hs.2.2.1, hs.2.2.2⟩
    case round2 =>
      rintro l' pre x V0 ⟨rest, hpr⟩ _ hi0
      gi_wp2
      refine ⟨Keep.refl _ _ _, Below.refl _ _, hi0, ?_⟩
      rintro V - - - hsz ⟨hB, hbx, hlt⟩
      clear hi0
      have fm : V.cell? ⟨w2.heap.size + 4, 0, none⟩ = some (.int .i64 (m : Int)) := (hB.cell (p := ⟨w2.heap.size + 4, 0, none⟩) (by show w2.heap.size + 4 < _; omega)).trans fm1
      have fn : V.cell? ⟨V1.heap.size, 0, none⟩ = some (.int .i64 (pre.length : Int)) := (cell_of_row V _ 0 _ _ _ hbx).trans (by simp)
      have ff : V.frozen? ⟨V1.heap.size, 0, none⟩ = false := frozen_of_row V _ 0 _ _ hbx
      have n1 : ¬ (w2.heap.size + 4 = V1.heap.size) := by omega
      have HX := Lib.hid hbx
      have HBV := Lib.hid hB
      have fin : (V.setCell ⟨V1.heap.size, 0, none⟩ (.int .i64 ((pre.length : Int) + 1))).heap[V1.heap.size]? = some (.cells #[.int .i64 (((pre ++ [x]).length : Nat) : Int)] 3 (0, 0)) := by
        have := heap_setCell_same V V1.heap.size 0 _ _ (.int .i64 ((pre.length : Int) + 1)) hbx
        refine Eq.trans this ?_
        rw [List.length_append, List.length_singleton]
        simp
      have FIN := Lib.hid fin
      clear hbx hB hpr fin
      by_cases hlast : pre.length + 1 < m
      · gi_wp2
        exact ⟨(Keep.refl _ _ _).setCell (.inl (by show V1.heap.size < _; omega)) _, (Below.refl _ _).setCell (p := ⟨V1.heap.size, 0, none⟩) (by show _ ≤ V1.heap.size; omega) _, HBV.out.setCell (p := ⟨V1.heap.size, 0, none⟩) (Nat.le_refl _) _, FIN.out, by simp; omega⟩
      · gi_wp2
        exact ⟨(Keep.refl _ _ _).setCell (.inl (by show V1.heap.size < _; omega)) _, rfl, HBV.out.setCell (p := ⟨V1.heap.size, 0, none⟩) (Nat.le_refl _) _, FIN.out, by simp; omega⟩
    case done2 =>
      rintro D2 V2 hD2 ⟨HT2, hg2, hlt2⟩ hk2
      have hl2 : (((List.range n).map fun i => n - 1 - i).map fun k => (k, zs.getD k 0)).length = n := by simp
      rw [hl2] at hg2 hlt2
      rw [show (n : Nat) = g by omega] at hg2
      have B2 := HB1.out.trans (HT2.mono (by omega))
      have f2 := HF.out V2 B2
      have hsz2 := B2.size
      have hszv := (Array.getElem?_eq_some_iff.1 hk2).1
      have hal1 := VecI.all_any w.heap.size p r n zs lb lc V2 f2.2.1 (by omega) f2.2.2
      have fg2 : V2.cell? ⟨w2.heap.size + 5, 0, none⟩ = some (.int .i64 (g : Int)) := (cell_of_row V2 _ 0 _ _ _ ((HT2.block _ (by omega)).trans HG1.out)).trans (by simp)
      have fb2 : V2.cell? ⟨V1.heap.size, 0, none⟩ = some (.int .i64 (g : Int)) := (cell_of_row V2 _ 0 _ _ _ hg2).trans (by simp)
      have fm2 := f2.1
      have hD1 : V2.heap[D1]? = some (.deferred (some [])) := (HT2.block _ (by omega)).trans HD1.out
      have hbw2 : Below w.heap.size w V2 := HB.out.trans ((bi.mono (by omega)).trans (B2.mono (by omega)))
      have HV2 := Lib.hid f2.2.1
      have HS2 := Lib.hid f2.2.2
      have HK2 := Lib.hid hk2
      have HD12 := Lib.hid hD1
      have HBW := Lib.hid hbw2
      have hgg : ((g : Int) == (g : Int)) = true := by simp
      clear f2 hk2 hD1 hbw2 hg2 HT2 B2
      gi_wp2_with fail
      refine ⟨trivial, ?_⟩
      refine (callsIn_wide.2 hal1).mono ?_
      rintro e V3 ⟨rfl, hb3⟩
      have hal2 := VecI.all_any w.heap.size p r n zs lb lc V3 (HV2.out.fr (Fr.ofBelow hb3 (fun _ => False)) (by simp) (by simp)) (by omega) (HS2.out.below hb3)
      have HB3 := Lib.hid hb3
      clear hb3 hal1
      gi_wp2_with fail
      refine ⟨trivial, ?_⟩
      refine (callsIn_wide.2 hal2).mono ?_
      rintro e V4 ⟨rfl, hb4⟩
      have hb24 := HB3.out.trans (hb4.mono HB3.out.size)
      have HB4 := Lib.hid hb24
      clear hb4 hal2 hb24
      gi_wp2
      have hDD : D1 ≠ D2 := by omega
      refine ⟨by simp, .inl ⟨_, _, rfl, run_takeDeferred ((HB4.out.block _ hszv).trans HK2.out), ?_⟩⟩
      refine ⟨by simp, .inl ⟨_, _, rfl, run_takeDeferred ((World.putObj_heap_other hDD).trans ((HB4.out.block _ (by omega)).trans HD12.out)), ?_⟩⟩
      refine ⟨_, results_tmp rfl _ _ _, rfl, ?_⟩
      have hz4 := HB4.out.size
      have hzw := HBW.out.size
      exact ((HBW.out.trans (HB4.out.mono hzw)).grown (grownBy_putObj' _ D2 _) (by omega) (fun k e => by cases e; omega)).grown (grownBy_putObj' _ D1 _) (by simp; omega) (fun k e => by cases e; omega)
    case stop2 =>
      rintro D2 c pre V2 hD2 hpre hne ⟨rfl, HT2, hg2, hlt2⟩ hk2
      have hl2 : pre.length ≤ n := by have := hpre.length_le; simpa using this
      rw [show pre.length = g by omega] at hg2
      have B2 := HB1.out.trans (HT2.mono (by omega))
      have f2 := HF.out V2 B2
      have hsz2 := B2.size
      have hszv := (Array.getElem?_eq_some_iff.1 hk2).1
      have hal1 := VecI.all_any w.heap.size p r n zs lb lc V2 f2.2.1 (by omega) f2.2.2
      have fg2 : V2.cell? ⟨w2.heap.size + 5, 0, none⟩ = some (.int .i64 (g : Int)) := (cell_of_row V2 _ 0 _ _ _ ((HT2.block _ (by omega)).trans HG1.out)).trans (by simp)
      have fb2 : V2.cell? ⟨V1.heap.size, 0, none⟩ = some (.int .i64 (g : Int)) := (cell_of_row V2 _ 0 _ _ _ hg2).trans (by simp)
      have fm2 := f2.1
      have hD1 : V2.heap[D1]? = some (.deferred (some [])) := (HT2.block _ (by omega)).trans HD1.out
      have hbw2 : Below w.heap.size w V2 := HB.out.trans ((bi.mono (by omega)).trans (B2.mono (by omega)))
      have HV2 := Lib.hid f2.2.1
      have HS2 := Lib.hid f2.2.2
      have HK2 := Lib.hid hk2
      have HD12 := Lib.hid hD1
      have HBW := Lib.hid hbw2
      have hgg : ((g : Int) == (g : Int)) = true := by simp
      clear f2 hk2 hD1 hbw2 hg2 HT2 B2
      gi_wp2_with fail
      refine ⟨trivial, ?_⟩
      refine (callsIn_wide.2 hal1).mono ?_
      rintro e V3 ⟨rfl, hb3⟩
      have hal2 := VecI.all_any w.heap.size p r n zs lb lc V3 (HV2.out.fr (Fr.ofBelow hb3 (fun _ => False)) (by simp) (by simp)) (by omega) (HS2.out.below hb3)
      have HB3 := Lib.hid hb3
      clear hb3 hal1
      gi_wp2_with fail
      refine ⟨trivial, ?_⟩
      refine (callsIn_wide.2 hal2).mono ?_
      rintro e V4 ⟨rfl, hb4⟩
      have hb24 := HB3.out.trans (hb4.mono HB3.out.size)
      have HB4 := Lib.hid hb24
      clear hb4 hal2 hb24
      gi_wp2
      have hDD : D1 ≠ D2 := by omega
      refine ⟨by simp, .inl ⟨_, _, rfl, run_takeDeferred ((HB4.out.block _ hszv).trans HK2.out), ?_⟩⟩
      refine ⟨by simp, .inl ⟨_, _, rfl, run_takeDeferred ((World.putObj_heap_other hDD).trans ((HB4.out.block _ (by omega)).trans HD12.out)), ?_⟩⟩
      refine ⟨_, results_tmp rfl _ _ _, rfl, ?_⟩
      have hz4 := HB4.out.size
      have hzw := HBW.out.size
      exact ((HBW.out.trans (HB4.out.mono hzw)).grown (grownBy_putObj' _ D2 _) (by omega) (fun k e => by cases e; omega)).grown (grownBy_putObj' _ D1 _) (by simp; omega) (fun k e => by cases e; omega)
  case stop =>
    rintro D1 c pre V1 hD1 hpre hne ⟨rfl, B1, hg1, hlt1⟩ hk1
    have hl1 : pre.length ≤ n := by have := hpre.length_le; simpa using this
    obtain ⟨g, hg⟩ : ∃ g, g = pre.length := ⟨_, rfl⟩
    rw [← hg] at hg1
    have hgm : g ≤ m ∧ g ≤ n ∧ (g = m ∨ g = n) := by omega
    clear hg hl1 hpre hne
    have hs1 : w2.heap.size + 6 ≤ V1.heap.size := by have := B1.size; omega
    have hD1V : D1 < V1.heap.size := (Array.getElem?_eq_some_iff.1 hk1).1
    have HG1 := Lib.hid hg1
    have HD1 := Lib.hid hk1
    have fm1 := (HF.out V1 B1).1
    have HB1 := Lib.hid B1
    clear hg1 hk1 B1
    have hmin : min (m : Int) (n : Int) = (g : Int) := by omega
    gi_wp2
    refine name_world ?_
    intro Wj hWj
    have hWj : Wj = V1.alloc (.cells #[.int .i64 0] 3) := hWj
    have sj : Wj.heap.size = V1.heap.size + 1 := by rw [hWj]; simp
    have bj : Below V1.heap.size V1 Wj := by rw [hWj]; exact (Below.refl _ V1).alloc (Nat.le_refl _) _
    have ej : Wj.heap[V1.heap.size]? = some (.cells #[.int .i64 ((([] : List (Nat × Int)).length : Nat) : Int)] 3 (0, 0)) := by rw [hWj]; exact heap_alloc_new V1 _
    clear hWj
    refine rangeFunc_iter (by omega) (gf := 35) (lb := #[.pointer (some ⟨w2.heap.size + 3, 0, none⟩), .pointer (some ⟨w2.heap.size + 2, 0, none⟩)]) rfl (enters_of Try.func35 (by kernel_rfl) rfl) iter2
      (fun h1 h2 => h1.trans h2) (belowK (by omega)) (by rw [s4]; exact bi4'.trans ((HB1.out.mono (by omega)).trans (bj.mono (by omega)))) (fun _ => rfl)
      (fun pre V => Below V1.heap.size V1 V ∧ V.heap[V1.heap.size]? = some (.cells #[.int .i64 (pre.length : Int)] 3 (0, 0)) ∧ pre.length < m)
      (fun c pre V => c = .exit 2 ∧ Below V1.heap.size V1 V ∧ V.heap[V1.heap.size]? = some (.cells #[.int .i64 (pre.length : Int)] 3 (0, 0)) ∧ pre.length = m) ?hI2 ?hIx2 ⟨bj, ej, hm0⟩ ?round2 ?done2 ?stop2
    case hI2 =>
      refine OwnFrom.and ?_ (OwnFrom.and ?_ (ownFrom_pure _ _))
      · exact fun s A B row hs hg hr => hs.grown hg hs.size (fun k e => by have := (hr k e).1; omega)
      · exact fun s A B row hs hg hr => (hg.block _ (Array.getElem?_eq_some_iff.1 hs).1 (fun e => by have := (hr _ e.symm).1; omega)).trans hs
    case hIx2 =>
      exact fun c s A B row hs hg hr => ⟨hs.1, hs.2.1.grown hg hs.2.1.size (fun k e => by have := (hr k e).1; omega), (hg.block _ (Array.getElem?_eq_some_iff.1 hs.2.2.1).1 (fun e => by have := (hr _ e.symm).1; omega)).trans hs.2.2.1, hs.2.2.2⟩
    case round2 =>
      rintro l' pre x V0 ⟨rest, hpr⟩ _ hi0
      gi_wp2
      refine ⟨Keep.refl _ _ _, Below.refl _ _, hi0, ?_⟩
      rintro V - - - hsz ⟨hB, hbx, hlt⟩
      clear hi0
      have fm : V.cell? ⟨w2.heap.size + 4, 0, none⟩ = some (.int .i64 (m : Int)) := (hB.cell (p := ⟨w2.heap.size + 4, 0, none⟩) (by show w2.heap.size + 4 < _; omega)).trans fm1
      have fn : V.cell? ⟨V1.heap.size, 0, none⟩ = some (.int .i64 (pre.length : Int)) := (cell_of_row V _ 0 _ _ _ hbx).trans (by simp)
      have ff : V.frozen? ⟨V1.heap.size, 0, none⟩ = false := frozen_of_row V _ 0 _ _ hbx
      have n1 : ¬ (w2.heap.size + 4 = V1.heap.size) := by omega
      have HX := Lib.hid hbx
      have HBV := Lib.hid hB
      have fin : (V.setCell ⟨V1.heap.size, 0, none⟩ (.int .i64 ((pre.length : Int) + 1))).heap[V1.heap.size]? = some (.cells #[.int .i64 (((pre ++ [x]).length : Nat) : Int)] 3 (0, 0)) := by
        have := heap_setCell_same V V1.heap.size 0 _ _ (.int .i64 ((pre.length : Int) + 1)) hbx
        refine Eq.trans this ?_
        rw [List.length_append, List.length_singleton]
        simp
      have FIN := Lib.hid fin
      clear hbx hB hpr fin
      by_cases hlast : pre.length + 1 < m
      · gi_wp2
        exact ⟨(Keep.refl _ _ _).setCell (.inl (by show V1.heap.size < _; omega)) _, (Below.refl _ _).setCell (p := ⟨V1.heap.size, 0, none⟩) (by show _ ≤ V1.heap.size; omega) _, HBV.out.setCell (p := ⟨V1.heap.size, 0, none⟩) (Nat.le_refl _) _, FIN.out, by simp; omega⟩
      · gi_wp2
        exact ⟨(Keep.refl _ _ _).setCell (.inl (by show V1.heap.size < _; omega)) _, rfl, HBV.out.setCell (p := ⟨V1.heap.size, 0, none⟩) (Nat.le_refl _) _, FIN.out, by simp; omega⟩
    case done2 =>
      rintro D2 V2 hD2 ⟨HT2, hg2, hlt2⟩ hk2
      have hl2 : (((List.range n).map fun i => n - 1 - i).map fun k => (k, zs.getD k 0)).length = n := by simp
      rw [hl2] at hg2 hlt2
      rw [show (n : Nat) = g by omega] at hg2
      have B2 := HB1.out.trans (HT2.mono (by omega))
      have f2 := HF.out V2 B2
      have hsz2 := B2.size
      have hszv := (Array.getElem?_eq_some_iff.1 hk2).1
      have hal1 := VecI.all_any w.heap.size p r n zs lb lc V2 f2.2.1 (by omega) f2.2.2
      have fg2 : V2.cell? ⟨w2.heap.size + 5, 0, none⟩ = some (.int .i64 (g : Int)) := (cell_of_row V2 _ 0 _ _ _ ((HT2.block _ (by omega)).trans HG1.out)).trans (by simp)
      have fb2 : V2.cell? ⟨V1.heap.size, 0, none⟩ = some (.int .i64 (g : Int)) := (cell_of_row V2 _ 0 _ _ _ hg2).trans (by simp)
      have fm2 := f2.1
      have hD1 : V2.heap[D1]? = some (.deferred (some [])) := (HT2.block _ (by omega)).trans HD1.out
      have hbw2 : Below w.heap.size w V2 := HB.out.trans ((bi.mono (by omega)).trans (B2.mono (by omega)))
      have HV2 := Lib.hid f2.2.1
      have HS2 := Lib.hid f2.2.2
      have HK2 := Lib.hid hk2
      have HD12 := Lib.hid hD1
      have HBW := Lib.hid hbw2
      have hgg : ((g : Int) == (g : Int)) = true := by simp
      clear f2 hk2 hD1 hbw2 hg2 HT2 B2
      gi_wp2_with fail
      refine ⟨trivial, ?_⟩
      refine (callsIn_wide.2 hal1).mono ?_
      rintro e V3 ⟨rfl, hb3⟩
      have hal2 := VecI.all_any w.heap.size p r n zs lb lc V3 (HV2.out.fr (Fr.ofBelow hb3 (fun _ => False)) (by simp) (by simp)) (by omega) (HS2.out.below hb3)
      have HB3 := Lib.hid hb3
      clear hb3 hal1
      gi_wp2_with fail
      refine ⟨trivial, ?_⟩
      refine (callsIn_wide.2 hal2).mono ?_
      rintro e V4 ⟨rfl, hb4⟩
      have hb24 := HB3.out.trans (hb4.mono HB3.out.size)
      have HB4 := Lib.hid hb24
      clear hb4 hal2 hb24
      gi_wp2
      have hDD : D1 ≠ D2 := by omega
      refine ⟨by simp, .inl ⟨_, _, rfl, run_takeDeferred ((HB4.out.block _ hszv).trans HK2.out), ?_⟩⟩
      refine ⟨by simp, .inl ⟨_, _, rfl, run_takeDeferred ((World.putObj_heap_other hDD).trans ((HB4.out.block _ (by omega)).trans HD12.out)), ?_⟩⟩
      refine ⟨_, results_tmp rfl _ _ _, rfl, ?_⟩
      have hz4 := HB4.out.size
      have hzw := HBW.out.size
      exact ((HBW.out.trans (HB4.out.mono hzw)).grown (grownBy_putObj' _ D2 _) (by omega) (fun k e => by cases e; omega)).grown (grownBy_putObj' _ D1 _) (by simp; omega) (fun k e => by cases e; omega)
    case stop2 =>
      rintro D2 c pre V2 hD2 hpre hne ⟨rfl, HT2, hg2, hlt2⟩ hk2
      have hl2 : pre.length ≤ n := by have := hpre.length_le; simpa using this
      rw [show pre.length = g by omega] at hg2
      have B2 := HB1.out.trans (HT2.mono (by omega))
      have f2 := HF.out V2 B2
      have hsz2 := B2.size
      have hszv := (Array.getElem?_eq_some_iff.1 hk2).1
      have hal1 := VecI.all_any w.heap.size p r n zs lb lc V2 f2.2.1 (by omega) f2.2.2
      have fg2 : V2.cell? ⟨w2.heap.size + 5, 0, none⟩ = some (.int .i64 (g : Int)) := (cell_of_row V2 _ 0 _ _ _ ((HT2.block _ (by omega)).trans HG1.out)).trans (by simp)
      have fb2 : V2.cell? ⟨V1.heap.size, 0, none⟩ = some (.int .i64 (g : Int)) := (cell_of_row V2 _ 0 _ _ _ hg2).trans (by simp)
      have fm2 := f2.1
      have hD1 : V2.heap[D1]? = some (.deferred (some [])) := (HT2.block _ (by omega)).trans HD1.out
      have hbw2 : Below w.heap.size w V2 := HB.out.trans ((bi.mono (by omega)).trans (B2.mono (by omega)))
      have HV2 := Lib.hid f2.2.1
      have HS2 := Lib.hid f2.2.2
      have HK2 := Lib.hid hk2
      have HD12 := Lib.hid hD1
      have HBW := Lib.hid hbw2
      have hgg : ((g : Int) == (g : Int)) = true := by simp
      clear f2 hk2 hD1 hbw2 hg2 HT2 B2
      gi_wp2_with fail
      refine ⟨trivial, ?_⟩
      refine (callsIn_wide.2 hal1).mono ?_
      rintro e V3 ⟨rfl, hb3⟩
      have hal2 := VecI.all_any w.heap.size p r n zs lb lc V3 (HV2.out.fr (Fr.ofBelow hb3 (fun _ => False)) (by simp) (by simp)) (by omega) (HS2.out.below hb3)
      have HB3 := Lib.hid hb3
      clear hb3 hal1
      gi_wp2_with fail
      refine ⟨trivial, ?_⟩
      refine (callsIn_wide.2 hal2).mono ?_
      rintro e V4 ⟨rfl, hb4⟩
      have hb24 := HB3.out.trans (hb4.mono HB3.out.size)
      have HB4 := Lib.hid hb24
      clear hb4 hal2 hb24
      gi_wp2
      have hDD : D1 ≠ D2 := by omega
      refine ⟨by simp, .inl ⟨_, _, rfl, run_takeDeferred ((HB4.out.block _ hszv).trans HK2.out), ?_⟩⟩
      refine ⟨by simp, .inl ⟨_, _, rfl, run_takeDeferred ((World.putObj_heap_other hDD).trans ((HB4.out.block _ (by omega)).trans HD12.out)), ?_⟩⟩
      refine ⟨_, results_tmp rfl _ _ _, rfl, ?_⟩
      have hz4 := HB4.out.size
      have hzw := HBW.out.size
      exact ((HBW.out.trans (HB4.out.mono hzw)).grown (grownBy_putObj' _ D2 _) (by omega) (fun k e => by cases e; omega)).grown (grownBy_putObj' _ D1 _) (by simp; omega) (fun k e => by cases e; omega)

theorem walk (lb : Option Addr) (n lc : Nat) (zs : List Int) (a1 : Int) (w : World) (hs : SrcV w 1 (.slice lb n lc) n (zs.map (.int .i64))) (hz : ∀ z ∈ zs, (Lit.int .i64 z).wf = true) (hw : (Lit.int .u8 a1).wf = true) :
    Calls Try.prog 5 #[.slice lb n lc, .int .u8 a1] w fun e w' => e = .returned (.bool true) ∧ Below w.heap.size w w' := by
  by_cases h : 60 < n
  · exact long lb n lc a1 w (by have := hs.2.2.1; unfold maxLen at this; omega) h
  · exact short lb n lc zs a1 w hs (by omega) (by simpa [Lit.wf, IntKind.min, IntKind.max, IntKind.signed, IntKind.bits] using hw)

end Go.Proofs.Ytfijpjnadgdfcaa.Breaks
