/-
  The law's own function `all`: what it tells of a list, forwards and backwards.
-/
import Derived.Test.YtfijpjnadgdfcaaWalk
set_option linter.unusedVariables false
namespace Go.Proofs.Ytfijpjnadgdfcaa.VecI
open Go Go.RowKit Go.Proofs.Ytfijpjnadgdfcaa.Vk Go.Shelf
attribute [local go_sem] Oper.semAt_some

theorem walk_new (p : Nat) (o : Value) (w : World) : Calls Try.prog 28 #[.pointer (some ⟨p, 0, none⟩), .func (.func 29) #[] #[]] w fun e w' =>
    e = .returned (.func (.func 35) #[] #[.pointer (some ⟨w.heap.size + 1, 0, none⟩), .pointer (some ⟨w.heap.size, 0, none⟩)]) ∧ (w.alloc (.cells #[.pointer (some ⟨p, 0, none⟩)] 25)).alloc (.cells #[.func (.func 29) #[] #[]] 60) = w' := by
  go_enter Try.func28, Try.ntmps28
  go_wp2
  go_ret
  exact ⟨rfl, rfl⟩

theorem all_new (p : Nat) (w : World) : Calls Try.prog 20 #[.pointer (some ⟨p, 0, none⟩)] w fun e w' =>
    e = .returned (.func (.func 35) #[] #[.pointer (some ⟨w.heap.size + 1, 0, none⟩), .pointer (some ⟨w.heap.size, 0, none⟩)]) ∧ (w.alloc (.cells #[.pointer (some ⟨p, 0, none⟩)] 25)).alloc (.cells #[.func (.func 29) #[] #[]] 60) = w' := by
  go_enter Try.func20, Try.ntmps20
  go_wp2
  go_ret
  exact ⟨rfl, rfl⟩

theorem back_new (p : Nat) (w : World) : Calls Try.prog 21 #[.pointer (some ⟨p, 0, none⟩)] w fun e w' =>
    e = .returned (.func (.func 35) #[] #[.pointer (some ⟨w.heap.size + 1, 0, none⟩), .pointer (some ⟨w.heap.size, 0, none⟩)]) ∧ (w.alloc (.cells #[.pointer (some ⟨p, 0, none⟩)] 25)).alloc (.cells #[.func (.func 30) #[] #[]] 60) = w' := by
  go_enter Try.func21, Try.ntmps21
  go_wp2
  go_ret
  exact ⟨rfl, rfl⟩

/-- The list's iterator is not nil. -/
theorem eqf (x y : Value) (W : World) : Sem.run Try.prog (Go.binOp .eql 46 (.func (.func 35) #[] #[x, y]) .nilFunc) W = .ok (.bool false) W := by kernel_rfl

theorem range_at (f : Nat → Nat × Int) (n : Nat) (pre : List (Nat × Int)) (x : Nat × Int) (rest : List (Nat × Int)) (h : (List.range n).map f = pre ++ x :: rest) : pre.length < n ∧ x = f pre.length := by
  have hl : ((List.range n).map f).length = (pre ++ x :: rest).length := by rw [h]
  simp at hl
  have hlt : pre.length < n := by omega
  refine ⟨hlt, ?_⟩
  have h1 : ((List.range n).map f)[pre.length]? = (pre ++ x :: rest)[pre.length]? := by rw [h]
  rw [List.getElem?_map, List.getElem?_append_right (Nat.le_refl _)] at h1
  simp [hlt] at h1
  exact h1.symm

set_option maxHeartbeats 2000000 in
set_option maxRecDepth 100000 in
/-- It says true where the list is what was wanted. -/
theorem all_any (base p : Nat) (r : Option Nat) (n : Nat) (zs : List Int) (wb : Option Addr) (wc : Nat) (w : World) (h : IsVec w base 52 E 1 p r n (zs.map (.int .i64))) (hn : n ≤ 1000000)
    (hs : SrcV w 1 (.slice wb n wc) n (zs.map (.int .i64))) :
    Calls Try.prog 15 #[.pointer (some ⟨p, 0, none⟩), .slice wb n wc] w fun e w' => e = .returned (.bool true) ∧ Below w.heap.size w w' := by
  refine (callsIn_wide (n := 9)).1 ?_
  refine callsIn_of_wp_marks Try.func15 rfl trivial ?_ rfl
  simp only [Try.ntmps15, List.size_toArray, List.length_cons, List.length_nil, Nat.reduceAdd, Nat.reduceSub, Array.replicate_succ, Array.replicate_zero, List.push_toArray, List.append_toArray, List.nil_append, List.cons_append]
  have hmx : Try.prog.follows .mixedOrders = true := by kernel_rfl
  have hp := h.lt.2
  have he := eqf
  refine wpIn_mono (Q := noPanic _) ?_ (noPanic_out _)
  gi_wp2
  have hlen := fun W hW => len_any base p r n _ W ((h.fr (Fr.ofBelow hW (fun _ => False)) (by simp) (by simp)))
  gi_region_with_o (refine ⟨trivial, ?_⟩; gi_at_call 22; refine (callsIn_wide.2 (hlen _ (((Below.refl _ w).alloc (Nat.le_refl _) _).alloc (by simp) _).drew)).mono ?_; rintro e w' ⟨rfl, rfl⟩)
  all_goals
    gi_wp2_with (first
      | (refine ⟨trivial, ?_⟩; gi_at_call 20; refine (callsIn_wide.2 (all_new _ _)).mono ?_; rintro e w' ⟨rfl, rfl⟩)
      | (refine ⟨trivial, ?_⟩; gi_at_call 21; refine (callsIn_wide.2 (back_new _ _)).mono ?_; rintro e w' ⟨rfl, rfl⟩))
  all_goals
    obtain ⟨W6, hW6⟩ : ∃ W6, W6 = (((((w.alloc (.cells #[.slice wb n wc] 22)).alloc (.cells #[.bool false] 4)).alloc (.cells #[.pointer (some ⟨p, 0, none⟩)] 25)).alloc (.cells #[.func (.func 29) #[] #[]] 60)).alloc (.cells #[.pointer (some ⟨p, 0, none⟩)] 25)).alloc (.cells #[.func (.func 30) #[] #[]] 60) := ⟨_, rfl⟩
    refine name_world ?_
    intro Wi hWi
    have hWi : Wi = (W6.alloc (.cells #[.int .i64 0] 3)).drew := by rw [hWi, hW6]
    have s6 : W6.heap.size = w.heap.size + 6 := by rw [hW6]; simp
    have b6 : Below w.heap.size w W6 := by
      rw [hW6]
      exact ((((((Below.refl _ w).alloc (Nat.le_refl _) _).alloc (by simp only [World.size_alloc]; omega) _).alloc (by simp only [World.size_alloc]; omega) _).alloc (by simp only [World.size_alloc]; omega) _).alloc (by simp only [World.size_alloc]; omega) _).alloc (by simp only [World.size_alloc]; omega) _
    have e0 : W6.heap[w.heap.size]? = some (.cells #[.slice wb n wc] 22 (0, 0)) := by rw [hW6]; simp only [heap_alloc_if, World.size_alloc]; repeat (first | rw [if_pos (by omega)] | rw [if_neg (by omega)])
    have e1 : W6.heap[w.heap.size + 1]? = some (.cells #[.bool false] 4 (0, 0)) := by rw [hW6]; simp only [heap_alloc_if, World.size_alloc]; repeat (first | rw [if_pos (by omega)] | rw [if_neg (by omega)])
    have c2 : W6.cell? ⟨w.heap.size + 2, 0, none⟩ = some (.pointer (some ⟨p, 0, none⟩)) := (cell_of_row W6 _ 0 _ _ _ (by rw [hW6]; simp only [heap_alloc_if, World.size_alloc]; repeat (first | rw [if_pos (by omega)] | rw [if_neg (by omega)]))).trans (by simp)
    have c3 : W6.cell? ⟨w.heap.size + 3, 0, none⟩ = some (.func (.func 29) #[] #[]) := (cell_of_row W6 _ 0 _ _ _ (by rw [hW6]; simp only [heap_alloc_if, World.size_alloc]; repeat (first | rw [if_pos (by omega)] | rw [if_neg (by omega)]))).trans (by simp)
    have c4 : W6.cell? ⟨w.heap.size + 4, 0, none⟩ = some (.pointer (some ⟨p, 0, none⟩)) := (cell_of_row W6 _ 0 _ _ _ (by rw [hW6]; simp only [heap_alloc_if, World.size_alloc]; repeat (first | rw [if_pos (by omega)] | rw [if_neg (by omega)]))).trans (by simp)
    have c5 : W6.cell? ⟨w.heap.size + 5, 0, none⟩ = some (.func (.func 30) #[] #[]) := (cell_of_row W6 _ 0 _ _ _ (by rw [hW6]; simp only [heap_alloc_if, World.size_alloc]; repeat (first | rw [if_pos (by omega)] | rw [if_neg (by omega)]))).trans (by simp)
    have hv6 := h.fr (Fr.ofBelow b6 (fun _ => False)) (by simp) (by simp)
    have hs6 : SrcV W6 1 (.slice wb n wc) n (zs.map (.int .i64)) := hs.below b6
    have bi : Below W6.heap.size W6 Wi := by rw [hWi]; exact ((Below.refl _ W6).alloc (Nat.le_refl _) _).drew
    have si : Wi.heap.size = w.heap.size + 7 := by rw [hWi]; simp; omega
    have ei : Wi.heap[w.heap.size + 6]? = some (.cells #[.int .i64 0] 3 (0, 0)) := by rw [hWi, heap_drew, heap_alloc_if]; simp [s6]
    clear hWi hW6
    rw [s6] at bi
    have hn63 : n ≤ 9223372036854775807 := by omega
    have hlz : zs.length = n := by have := hs.1; simpa using this
    have HLZ := Lib.hid hlz
    have iter1 := all_iter base p (w.heap.size + 3) (w.heap.size + 2) r n zs W6 hv6 hn c3 c2
    have iter2 := back_iter base p (w.heap.size + 5) (w.heap.size + 4) r n zs W6 hv6 hn c5 c4
    -- what the two loops read of what lies below the counter's box
    have facts : ∀ V, Below (w.heap.size + 6) Wi V → V.cell? ⟨w.heap.size, 0, none⟩ = some (.slice wb n wc) ∧ V.heap[w.heap.size + 1]? = some (.cells #[.bool false] 4 (0, 0)) ∧ SrcV V 1 (.slice wb n wc) n (zs.map (.int .i64)) := fun V hV =>
      ⟨(cell_of_row V _ 0 _ _ _ ((hV.block _ (by omega)).trans ((bi.block _ (by omega)).trans e0))).trans (by simp), (hV.block _ (by omega)).trans ((bi.block _ (by omega)).trans e1),
        hs6.fr (S := fun k => w.heap.size + 6 ≤ k) ⟨hV.os.trans bi.os, hV.tape.trans bi.tape, hV.output.trans bi.output, Nat.le_trans bi.size hV.size, fun k hk hk' => (hV.block k (by omega)).trans (bi.block k (by omega))⟩ (fun h0 k hk => by have := hs6.blkLt (by omega) k hk; omega)⟩
    have HF := Lib.hid facts
    clear facts hlz e0 e1 c2 c3 c4 c5 hs6 hv6 hlen
    refine rangeFunc_iter (by omega) (gf := 35) (lb := #[.pointer (some ⟨w.heap.size + 3, 0, none⟩), .pointer (some ⟨w.heap.size + 2, 0, none⟩)]) rfl (enters_of Try.func35 (by kernel_rfl) rfl) iter1
      (fun h1 h2 => h1.trans h2) (belowK (by omega)) (by rw [s6]; exact bi) (fun _ => rfl)
      (fun pre V => Below (w.heap.size + 6) Wi V ∧ V.heap[w.heap.size + 6]? = some (.cells #[.int .i64 (pre.length : Int)] 3 (0, 0)))
      (fun c pre V => False) ?hI ?hIx ⟨Below.refl _ _, ei⟩ ?round ?done ?stop
    case hI =>
      refine OwnFrom.and ?_ ?_
      · exact fun s A B row hs hg hr => hs.grown hg (by have := hs.size; omega) (fun k e => by have := (hr k e).1; omega)
      · exact fun s A B row hs hg hr => (hg.block _ (Array.getElem?_eq_some_iff.1 hs).1 (fun e => by have := (hr _ e.symm).1; omega)).trans hs
    case hIx => exact fun c s A B row hs hg hr => hs
    case round =>
      rintro l' pre x V0 ⟨rest, hpr⟩ _ hi0
      gi_wp2
      refine ⟨Keep.refl _ _ _, ?_, hi0, ?_⟩
      · exact Below.refl _ _
      rintro V - - - hsz ⟨hB, hbx⟩
      clear hi0
      obtain ⟨hk, hx⟩ := range_at _ n pre x rest hpr
      subst hx
      obtain ⟨f0, f1, f2⟩ := HF.out V hB
      obtain ⟨wbb, wbo, rfl⟩ : ∃ b o, wb = some ⟨b, o, none⟩ := by
        rcases f2.2.2.2 with ⟨_, _, h0⟩ | ⟨b, o, c, h, _⟩
        · omega
        · simp only [Value.slice.injEq] at h; exact ⟨b, o, h.1⟩
      obtain ⟨zk, hzk⟩ : ∃ zk, zk = zs.getD pre.length 0 := ⟨_, rfl⟩
      have fz : V.cell? ⟨wbb, wbo + pre.length, none⟩ = some (.int .i64 zk) := by
        rcases f2.2.2.2 with ⟨_, _, h0⟩ | ⟨b, o, c, h, _, _, hc⟩
        · omega
        · simp only [Value.slice.injEq, Option.some.injEq, Addr.mk.injEq, and_true] at h
          obtain ⟨⟨rfl, rfl⟩, _⟩ := h
          refine hc _ _ ?_
          rw [hzk, List.getElem?_map, List.getD_eq_getElem?_getD, List.getElem?_eq_getElem (by have := HLZ.out; omega)]; rfl
      have hwc : n ≤ wc := by
        rcases f2.2.2.2 with ⟨_, _, h0⟩ | ⟨b, o, c, h, h1, _⟩
        · omega
        · simp only [Value.slice.injEq] at h; omega
      have fn : V.cell? ⟨w.heap.size + 6, 0, none⟩ = some (.int .i64 (pre.length : Int)) := (cell_of_row V _ 0 _ _ _ hbx).trans (by simp)
      have ff : V.frozen? ⟨w.heap.size + 6, 0, none⟩ = false := frozen_of_row V _ 0 _ _ hbx
      simp only [← hzk]
      have HP := Lib.hid hpr
      have HX := Lib.hid hbx
      have HB := Lib.hid hB
      have hkl : ((pre.length : Int) != (pre.length : Int)) = false := by simp
      have hzz : (zk != zk) = false := by simp
      clear hpr hbx hB f1 f2 hzk
      obtain ⟨k, hkk⟩ : ∃ k, k = pre.length := ⟨_, rfl⟩
      rw [← hkk] at hk fz fn hkl ⊢
      have HKK := Lib.hid hkk
      clear hkk
      gi_wp2
      refine ⟨(Keep.refl _ _ _).setCell (.inl (by show w.heap.size + 6 < _; omega)) _, (Below.refl _ _).setCell (p := ⟨w.heap.size + 6, 0, none⟩) (by show _ ≤ w.heap.size + 6; omega) _, HB.out.setCell (p := ⟨w.heap.size + 6, 0, none⟩) (Nat.le_refl _) _, ?_⟩
      have := heap_setCell_same V (w.heap.size + 6) 0 _ _ (.int .i64 ((k : Int) + 1)) HX.out
      simpa [HKK.out] using this
    case stop => exact fun _ _ _ _ _ _ _ h _ => h.elim
    case done =>
      rintro D V1 hD ⟨hB1, hn1⟩ hk1
      have hl1 : ((List.range n).map fun k => (k, zs.getD k 0)).length = n := by simp
      rw [hl1] at hn1
      obtain ⟨f0, f1, f2⟩ := HF.out V1 hB1
      have fn1 : V1.cell? ⟨w.heap.size + 6, 0, none⟩ = some (.int .i64 (n : Int)) := (cell_of_row V1 _ 0 _ _ _ hn1).trans (by simp)
      have HB1 := Lib.hid hB1
      have HN1 := Lib.hid hn1
      have HK1 := Lib.hid hk1
      clear hB1 hn1 hk1 f1 f2 hl1
      have hnn : ((n : Int) != (n : Int)) = false := by simp
      gi_wp2
      have hs1 : w.heap.size + 7 ≤ V1.heap.size := by have := HB1.out.size; omega
      have hDV : D < V1.heap.size := (Array.getElem?_eq_some_iff.1 HK1.out).1
      refine rangeFunc_iter (by omega) (gf := 35) (lb := #[.pointer (some ⟨w.heap.size + 5, 0, none⟩), .pointer (some ⟨w.heap.size + 4, 0, none⟩)]) rfl (enters_of Try.func35 (by kernel_rfl) rfl) iter2
        (fun h1 h2 => h1.trans h2) (belowK (by omega)) (by rw [s6]; exact bi.trans HB1.out) (fun _ => rfl)
        (fun pre V => Below (w.heap.size + 6) Wi V ∧ V.heap[w.heap.size + 6]? = some (.cells #[.int .i64 ((n - pre.length : Nat) : Int)] 3 (0, 0)) ∧ V.heap[D]? = some (.deferred (some [])))
        (fun c pre V => False) ?hI2 ?hIx2 ⟨HB1.out, HN1.out, HK1.out⟩ ?round2 ?done2 ?stop2
      case hI2 =>
        refine OwnFrom.and ?_ (OwnFrom.and ?_ ?_)
        · exact fun s A B row hs hg hr => hs.grown hg (by have := hs.size; omega) (fun k e => by have := (hr k e).1; omega)
        · exact fun s A B row hs hg hr => (hg.block _ (Array.getElem?_eq_some_iff.1 hs).1 (fun e => by have := (hr _ e.symm).1; omega)).trans hs
        · exact fun s A B row hs hg hr => (hg.block _ (Array.getElem?_eq_some_iff.1 hs).1 (fun e => by have := (hr _ e.symm).1; omega)).trans hs
      case hIx2 => exact fun c s A B row hs hg hr => hs
      case stop2 => exact fun _ _ _ _ _ _ _ h _ => h.elim
      case round2 =>
        rintro l' pre x V0 ⟨rest, hpr⟩ _ hi0
        gi_wp2
        refine ⟨Keep.refl _ _ _, ?_, hi0, ?_⟩
        · exact Below.refl _ _
        rintro V - - - hsz ⟨hB, hbx, hDk⟩
        clear hi0
        rw [List.map_map] at hpr
        obtain ⟨hk, hx⟩ := range_at _ n pre x rest hpr
        subst hx
        obtain ⟨f0, f1, f2⟩ := HF.out V hB
        obtain ⟨wbb, wbo, rfl⟩ : ∃ b o, wb = some ⟨b, o, none⟩ := by
          rcases f2.2.2.2 with ⟨_, _, h0⟩ | ⟨b, o, c, h, _⟩
          · omega
          · simp only [Value.slice.injEq] at h; exact ⟨b, o, h.1⟩
        obtain ⟨j, hj⟩ : ∃ j, j = n - 1 - pre.length := ⟨_, rfl⟩
        obtain ⟨zk, hzk⟩ : ∃ zk, zk = zs.getD j 0 := ⟨_, rfl⟩
        have hjn : j < n := by omega
        have fz : V.cell? ⟨wbb, wbo + j, none⟩ = some (.int .i64 zk) := by
          rcases f2.2.2.2 with ⟨_, _, h0⟩ | ⟨b, o, c, h, _, _, hc⟩
          · omega
          · simp only [Value.slice.injEq, Option.some.injEq, Addr.mk.injEq, and_true] at h
            obtain ⟨⟨rfl, rfl⟩, _⟩ := h
            refine hc _ _ ?_
            rw [hzk, List.getElem?_map, List.getD_eq_getElem?_getD, List.getElem?_eq_getElem (by have := HLZ.out; omega)]; rfl
        have hwc : n ≤ wc := by
          rcases f2.2.2.2 with ⟨_, _, h0⟩ | ⟨b, o, c, h, h1, _⟩
          · omega
          · simp only [Value.slice.injEq] at h; omega
        have hwbV : wbb ≠ w.heap.size + 6 := by
          have := hs.blkLt (by omega) wbb rfl
          omega
        have fn : V.cell? ⟨w.heap.size + 6, 0, none⟩ = some (.int .i64 ((j : Int) + 1)) := (cell_of_row V _ 0 _ _ _ hbx).trans (by simp; omega)
        have ff : V.frozen? ⟨w.heap.size + 6, 0, none⟩ = false := frozen_of_row V _ 0 _ _ hbx
        simp only [Function.comp, ← hj, ← hzk]
        have HX := Lib.hid hbx
        have HB := Lib.hid hB
        have HD := Lib.hid hDk
        have HJ := Lib.hid hj
        have hkl : ((j : Int) != (j : Int)) = false := by simp
        have hzz : (zk != zk) = false := by simp
        clear hpr hbx hB f1 f2 hzk hDk hj
        gi_wp2
        refine ⟨(Keep.refl _ _ _).setCell (.inl (by show w.heap.size + 6 < _; omega)) _, (Below.refl _ _).setCell (p := ⟨w.heap.size + 6, 0, none⟩) (by show _ ≤ w.heap.size + 6; omega) _, HB.out.setCell (p := ⟨w.heap.size + 6, 0, none⟩) (Nat.le_refl _) _, ?_, ?_⟩
        · have := heap_setCell_same V (w.heap.size + 6) 0 _ _ (.int .i64 (j : Int)) HX.out
          refine Eq.trans this ?_
          rw [List.length_append, List.length_singleton, show n - (pre.length + 1) = j by have := HJ.out; omega]
          simp
        · exact (heap_setCell_other V ⟨w.heap.size + 6, 0, none⟩ D _ (by show D ≠ w.heap.size + 6; omega)).trans HD.out
      case done2 =>
        rintro D2 V2 hD2 ⟨hB2, hn2, hDk2⟩ hk2
        have hl2 : (((List.range n).map fun i => n - 1 - i).map fun k => (k, zs.getD k 0)).length = n := by simp
        rw [hl2, Nat.sub_self] at hn2
        obtain ⟨f0, f1, f2⟩ := HF.out V2 hB2
        have fn2 : V2.cell? ⟨w.heap.size + 6, 0, none⟩ = some (.int .i64 0) := (cell_of_row V2 _ 0 _ _ _ hn2).trans (by simp)
        have fr2 : V2.cell? ⟨w.heap.size + 1, 0, none⟩ = some (.bool false) := (cell_of_row V2 _ 0 _ _ _ f1).trans (by simp)
        have ff2 : V2.frozen? ⟨w.heap.size + 1, 0, none⟩ = false := frozen_of_row V2 _ 0 _ _ f1
        have HB2 := Lib.hid hB2
        have HK2 := Lib.hid hk2
        have HD2 := Lib.hid hDk2
        have HR2 := Lib.hid f1
        clear hB2 hn2 hk2 f1 f2 hl2 hDk2
        gi_wp2
        have hD21 : D2 ≠ w.heap.size + 1 := by omega
        have hD11 : D ≠ w.heap.size + 1 := by omega
        have hDD : D ≠ D2 := by omega
        refine ⟨by simp, .inl ⟨_, _, rfl, run_takeDeferred ((heap_setCell_other V2 ⟨w.heap.size + 1, 0, none⟩ D2 _ hD21).trans HK2.out), ?_⟩⟩
        refine ⟨by simp, .inl ⟨_, _, rfl, run_takeDeferred ((World.putObj_heap_other hDD).trans ((heap_setCell_other V2 ⟨w.heap.size + 1, 0, none⟩ D _ hD11).trans HD2.out)), ?_⟩⟩
        have hres := heap_setCell_same V2 (w.heap.size + 1) 0 _ _ (.bool true) HR2.out
        have hfin : (((V2.setCell ⟨w.heap.size + 1, 0, none⟩ (.bool true)).putObj D2 (.deferred none)).putObj D (.deferred none)).cell? ⟨w.heap.size + 1, 0, none⟩ = some (.bool true) :=
          (cell_of_row _ _ 0 _ _ _ ((World.putObj_heap_other (fun e => hD11 e.symm)).trans ((World.putObj_heap_other (fun e => hD21 e.symm)).trans hres))).trans (by simp)
        have hbel : Below w.heap.size w (((V2.setCell ⟨w.heap.size + 1, 0, none⟩ (.bool true)).putObj D2 (.deferred none)).putObj D (.deferred none)) := by
          have x1 : Below w.heap.size w V2 := b6.trans ((bi.mono (by omega)).trans (HB2.out.mono (by omega)))
          have x2 := x1.setCell (p := ⟨w.heap.size + 1, 0, none⟩) (by show _ ≤ w.heap.size + 1; omega) (.bool true)
          have hz2 : w.heap.size ≤ V2.heap.size := x1.size
          exact (x2.grown (grownBy_putObj' _ D2 _) (by simpa [World.setCell] using hz2) (fun k e => by cases e; omega)).grown (grownBy_putObj' _ D _) (by simpa [World.setCell] using hz2) (fun k e => by cases e; omega)
        refine ⟨_, ?_, rfl, hbel⟩
        simp [results, Try.results15, go_sem, hfin]

end Go.Proofs.Ytfijpjnadgdfcaa.VecI
