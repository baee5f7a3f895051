/-
  The list's own iterators, forwards and backwards, have their contracts.
-/
import Derived.Test.YtfijpjnadgdfcaaIter
set_option linter.unusedVariables false
namespace Go.Proofs.Ytfijpjnadgdfcaa.VecI
open Go Go.RowKit Go.Proofs.Ytfijpjnadgdfcaa.Vk Go.Shelf
attribute [local go_sem] Oper.semAt_some

set_option maxHeartbeats 2000000 in
theorem all_iter (base p bo bv : Nat) (r : Option Nat) (n : Nat) (zs : List Int) (w : World) (h : IsVec w base 52 E 1 p r n (zs.map (.int .i64))) (hn : n ≤ 1000000)
    (hbo : w.cell? ⟨bo, 0, none⟩ = some (.func (.func 29) #[] #[])) (hbv : w.cell? ⟨bv, 0, none⟩ = some (.pointer (some ⟨p, 0, none⟩))) :
    Iter Try.prog 35 #[.pointer (some ⟨bo, 0, none⟩), .pointer (some ⟨bv, 0, none⟩)] (fun x : Nat × Int => #[.int .i64 x.1, .int .i64 x.2]) 4 (fun W W' => Below w.heap.size W W') ((List.range n).map fun k => (k, zs.getD k 0)) w := fun l J Jx W hW hJ hJx hY h0 => by
  have hs := hW.size
  have hs' := hs
  have hbow := World.block_lt_of_cell? w _ hbo
  have hbvw := World.block_lt_of_cell? w _ hbv
  have hbo' := (hW.cell hbow).trans hbo
  have hbv' := (hW.cell hbvw).trans hbv
  have hv := h.fr (Fr.ofBelow hW (fun _ => False)) (by simp) (by simp)
  have HV := Lib.hid hv
  have HV0 := Lib.hid h
  obtain ⟨sa, sc, h1, h2, h3, h4, h5⟩ := hv
  have hc := cell_of_row W p 0 _ _ _ h1
  simp at hc
  have hzl : zs.length = n := by have := h3.1; simpa using this
  have HZ := Lib.hid hzl
  clear h1 h2 h3 h4 h5 hzl h
  have hp := (HV.out).lt.2
  have l1 : bo < W.heap.size := Nat.lt_of_lt_of_le hbow hs
  have l2 : bv < W.heap.size := Nat.lt_of_lt_of_le hbvw hs
  have n1 : ¬ (bo = W.heap.size) := by omega
  have n2 : ¬ (bv = W.heap.size) := by omega
  have n3 : ¬ (p = W.heap.size) := by omega
  refine callsIn_of_wp_marks Try.func35 rfl trivial ?_ rfl
  simp only [Try.ntmps35, List.size_toArray, List.length_cons, List.length_nil, Nat.reduceAdd, Nat.reduceSub, Array.replicate_succ, Array.replicate_zero, List.push_toArray, List.append_toArray, List.nil_append, List.cons_append]
  have hmx : Try.prog.follows .mixedOrders = true := by kernel_rfl
  refine wpIn_mono (Q := noPanic _) ?_ (noPanic_out _)
  gi_wp2
  gi_region_with_o (refine ⟨trivial, ?_⟩; gi_at_call 29; refine (callsIn_wide.2 (asc_new _ _)).mono ?_; rintro e w' ⟨rfl, rfl⟩)
  all_goals gi_wp2
  all_goals
    obtain ⟨Wi, hWi⟩ : ∃ Wi, Wi = ((W.alloc (.cells #[.func (.yield l) #[] #[]] 32)).alloc (.cells #[.int .i64 n] 3)).drew := ⟨_, rfl⟩
    rw [← hWi]
    have hsi : Wi.heap.size = W.heap.size + 2 := by rw [hWi]; simp
    have hbi : Below W.heap.size W Wi := by rw [hWi]; exact (((Below.refl _ W).alloc (Nat.le_refl _) _).alloc (by simp) _).drew
    have hji : J [] Wi := by rw [hWi]; exact hJ _ _ _ none (hJ.alloc _ (hJ.alloc _ h0)) ⟨rfl, rfl, rfl, Nat.le_refl _, fun _ _ _ => rfl⟩ (by simp)
    have hyb : Wi.heap[W.heap.size]? = some (.cells #[.func (.yield l) #[] #[]] 32 (0, 0)) := by
      rw [hWi]
      exact (Below.heap_alloc (W.alloc _) _ _ (by simp)).trans (heap_alloc_new W _)
    have hlb : Wi.cell? ⟨W.heap.size + 1, 0, none⟩ = some (.int .i64 n) := by
      rw [hWi]
      have := cell_of_row ((W.alloc (.cells #[.func (.yield l) #[] #[]] 32)).alloc (.cells #[.int .i64 n] 3)) (W.heap.size + 1) 0 #[.int .i64 n] 3 (0, 0) (by have := heap_alloc_new (W.alloc (.cells #[.func (.yield l) #[] #[]] 32)) (.cells #[.int .i64 n] 3); simpa using this)
      exact this.trans (by simp)
    clear hWi
    refine rangeFunc_iter (by omega) (gf := 36) (lb := #[.pointer (some ⟨W.heap.size + 1, 0, none⟩)]) rfl (enters_of Try.func36 (by kernel_rfl) rfl) (asc_iter (W.heap.size + 1) n Wi hlb hn)
      (fun h1 h2 => h2.trans h1) (fun V lx o o' hlx _ _ _ => World.putObj_heap_other (by omega)) (Below.refl _ _) (fun _ => rfl)
      (fun pre V => J (pre.map fun k => (k, zs.getD k 0)) V ∧ Below w.heap.size W V ∧ V.heap[W.heap.size]? = some (.cells #[.func (.yield l) #[] #[]] 32 (0, 0)))
      (fun c pre V => c = .ret ∧ Jx (pre.map fun k => (k, zs.getD k 0)) V) ?hI ?hIx ⟨hji, hbi.mono hs, hyb⟩ ?round ?done ?stop
    case hI =>
      refine OwnFrom.and (fun s A B row hs hg hr => ownFrom_mono hJ (by omega) _ _ _ row hs hg hr) (OwnFrom.and ?_ ?_)
      · exact fun s A B row hs hg hr => hs.grown hg (Nat.le_trans hs' hs.size) (fun k e => by have := (hr k e).1; omega)
      · exact fun s A B row hs hg hr => (hg.block _ (Array.getElem?_eq_some_iff.1 hs).1 (fun e => by have := (hr _ e.symm).1; omega)).trans hs
    case hIx => exact fun c s A B row hs hg hr => ⟨hs.1, ownFrom_mono hJx (by omega) _ _ _ row hs.2 hg hr⟩
    case round =>
      rintro l' pre x V0 ⟨rest, hpr⟩ _ hi0
      gi_wp2
      refine ⟨Keep.refl _ _ _, ?_, hi0, ?_⟩
      · first | trivial | rfl
      rintro V - - - hsz ⟨hj, hB, hbx⟩
      clear hi0
      have hxn : x < n := by
        have : x ∈ List.range n := by rw [hpr]; simp
        simpa using this
      have hBW : Below w.heap.size w V := hW.trans hB
      have hv3 := HV0.out.fr (Fr.ofBelow hBW (fun _ => False)) (by simp) (by simp)
      have hz3 : (zs.map (Value.int .i64))[x]? = some (.int .i64 (zs.getD x 0)) := by
        rw [List.getElem?_map, List.getD_eq_getElem?_getD, List.getElem?_eq_getElem (by have := HZ.out; omega)]; rfl
      have hat := at_in base p r n _ x (zs.getD x 0) V hv3 hxn hn hz3
      have hbv3 : V.cell? ⟨bv, 0, none⟩ = some (.pointer (some ⟨p, 0, none⟩)) := (hBW.cell hbvw).trans hbv
      have hyb3 : V.cell? ⟨W.heap.size, 0, none⟩ = some (.func (.yield l) #[] #[]) := (cell_of_row V _ _ _ _ _ hbx).trans (by simp)
      obtain ⟨fn, tmps, assign, body, hy, hR⟩ := hY (pre.map fun k => (k, zs.getD k 0)) (x, zs.getD x 0) V ⟨rest.map fun k => (k, zs.getD k 0), by rw [hpr]; simp⟩ (by omega) hj
      dsimp only at hy
      have HR := Lib.hid hR
      have HP := Lib.hid hpr
      have HB := Lib.hid hB
      have HX := Lib.hid hbx
      have HA := Lib.hid hat
      clear hR hpr hB hbx hv3 hz3 hj hBW hat
      obtain ⟨zx, hzx⟩ : ∃ zx, zx = zs.getD x 0 := ⟨_, rfl⟩
      rw [← hzx] at hy HA HR
      have HZX := Lib.hid hzx
      clear hzx
      gi_wp2_with (refine ⟨trivial, ?_⟩; gi_at_call 14; refine (CallsIn.inRound l' (callsIn_wide.2 HA.out)).mono ?_; rintro e w' ⟨rfl, rfl⟩)
      refine (roundIn_in l' HR.out).mono ?_
      rintro e V3 ⟨hkeep, (⟨rfl, hJ3, hk3⟩ | ⟨rfl, hJx3⟩)⟩
      · have H3 := Lib.hid hJ3
        have HK := Lib.hid hkeep
        have HB3 := Lib.hid hk3
        clear hJ3 hkeep hk3
        gi_wp2
        refine ⟨HK.out.mono (by omega) (by omega), HK.out.same _ (by omega) (by omega), ?_, ?_, (HK.out.same _ (by omega) (by omega)).trans HX.out⟩
        · have := H3.out
          rw [HZX.out] at this
          rw [List.map_append]
          exact this
        · exact HB.out.trans HB3.out
      · have H3 := Lib.hid hJx3
        have HK := Lib.hid hkeep
        clear hJx3 hkeep
        gi_wp2
        refine ⟨HK.out.mono (by omega) (by omega), rfl, ?_⟩
        have := H3.out
        rw [HZX.out] at this
        rw [List.map_append]
        exact this
    case done =>
      rintro D V hD ⟨hj, hB, _⟩ hk
      gi_wp2
      refine ⟨by simp, .inl ⟨_, _, rfl, run_takeDeferred hk, ?_⟩⟩
      exact ⟨_, results_none rfl _ _ _, ⟨_, rfl⟩, .inl (hJ.putObj _ hj (by omega) hk rfl)⟩
    case stop =>
      rintro D c pre V hD hpre hne ⟨rfl, hjx⟩ hk
      gi_wp2
      refine ⟨by simp, .inl ⟨_, _, rfl, run_takeDeferred hk, ?_⟩⟩
      exact ⟨_, results_none rfl _ _ _, ⟨_, rfl⟩, .inr ⟨_, List.IsPrefix.map _ hpre, by simpa using hne, hJx.putObj _ hjx (by omega) hk rfl⟩⟩

set_option maxHeartbeats 2000000 in
theorem back_iter (base p bo bv : Nat) (r : Option Nat) (n : Nat) (zs : List Int) (w : World) (h : IsVec w base 52 E 1 p r n (zs.map (.int .i64))) (hn : n ≤ 1000000)
    (hbo : w.cell? ⟨bo, 0, none⟩ = some (.func (.func 30) #[] #[])) (hbv : w.cell? ⟨bv, 0, none⟩ = some (.pointer (some ⟨p, 0, none⟩))) :
    Iter Try.prog 35 #[.pointer (some ⟨bo, 0, none⟩), .pointer (some ⟨bv, 0, none⟩)] (fun x : Nat × Int => #[.int .i64 x.1, .int .i64 x.2]) 4 (fun W W' => Below w.heap.size W W') (((List.range n).map fun i => n - 1 - i).map fun k => (k, zs.getD k 0)) w := fun l J Jx W hW hJ hJx hY h0 => by
  have hs := hW.size
  have hs' := hs
  have hbow := World.block_lt_of_cell? w _ hbo
  have hbvw := World.block_lt_of_cell? w _ hbv
  have hbo' := (hW.cell hbow).trans hbo
  have hbv' := (hW.cell hbvw).trans hbv
  have hv := h.fr (Fr.ofBelow hW (fun _ => False)) (by simp) (by simp)
  have HV := Lib.hid hv
  have HV0 := Lib.hid h
  obtain ⟨sa, sc, h1, h2, h3, h4, h5⟩ := hv
  have hc := cell_of_row W p 0 _ _ _ h1
  simp at hc
  have hzl : zs.length = n := by have := h3.1; simpa using this
  have HZ := Lib.hid hzl
  clear h1 h2 h3 h4 h5 hzl h
  have hp := (HV.out).lt.2
  have l1 : bo < W.heap.size := Nat.lt_of_lt_of_le hbow hs
  have l2 : bv < W.heap.size := Nat.lt_of_lt_of_le hbvw hs
  have n1 : ¬ (bo = W.heap.size) := by omega
  have n2 : ¬ (bv = W.heap.size) := by omega
  have n3 : ¬ (p = W.heap.size) := by omega
  refine callsIn_of_wp_marks Try.func35 rfl trivial ?_ rfl
  simp only [Try.ntmps35, List.size_toArray, List.length_cons, List.length_nil, Nat.reduceAdd, Nat.reduceSub, Array.replicate_succ, Array.replicate_zero, List.push_toArray, List.append_toArray, List.nil_append, List.cons_append]
  have hmx : Try.prog.follows .mixedOrders = true := by kernel_rfl
  refine wpIn_mono (Q := noPanic _) ?_ (noPanic_out _)
  gi_wp2
  gi_region_with_o (refine ⟨trivial, ?_⟩; gi_at_call 30; refine (callsIn_wide.2 (desc_new _ _)).mono ?_; rintro e w' ⟨rfl, rfl⟩)
  all_goals gi_wp2
  all_goals
    obtain ⟨Wi, hWi⟩ : ∃ Wi, Wi = ((W.alloc (.cells #[.func (.yield l) #[] #[]] 32)).alloc (.cells #[.int .i64 n] 3)).drew := ⟨_, rfl⟩
    rw [← hWi]
    have hsi : Wi.heap.size = W.heap.size + 2 := by rw [hWi]; simp
    have hbi : Below W.heap.size W Wi := by rw [hWi]; exact (((Below.refl _ W).alloc (Nat.le_refl _) _).alloc (by simp) _).drew
    have hji : J [] Wi := by rw [hWi]; exact hJ _ _ _ none (hJ.alloc _ (hJ.alloc _ h0)) ⟨rfl, rfl, rfl, Nat.le_refl _, fun _ _ _ => rfl⟩ (by simp)
    have hyb : Wi.heap[W.heap.size]? = some (.cells #[.func (.yield l) #[] #[]] 32 (0, 0)) := by
      rw [hWi]
      exact (Below.heap_alloc (W.alloc _) _ _ (by simp)).trans (heap_alloc_new W _)
    have hlb : Wi.cell? ⟨W.heap.size + 1, 0, none⟩ = some (.int .i64 n) := by
      rw [hWi]
      have := cell_of_row ((W.alloc (.cells #[.func (.yield l) #[] #[]] 32)).alloc (.cells #[.int .i64 n] 3)) (W.heap.size + 1) 0 #[.int .i64 n] 3 (0, 0) (by have := heap_alloc_new (W.alloc (.cells #[.func (.yield l) #[] #[]] 32)) (.cells #[.int .i64 n] 3); simpa using this)
      exact this.trans (by simp)
    clear hWi
    refine rangeFunc_iter (by omega) (gf := 37) (lb := #[.pointer (some ⟨W.heap.size + 1, 0, none⟩)]) rfl (enters_of Try.func37 (by kernel_rfl) rfl) (desc_iter (W.heap.size + 1) n Wi hlb hn)
      (fun h1 h2 => h2.trans h1) (fun V lx o o' hlx _ _ _ => World.putObj_heap_other (by omega)) (Below.refl _ _) (fun _ => rfl)
      (fun pre V => J (pre.map fun k => (k, zs.getD k 0)) V ∧ Below w.heap.size W V ∧ V.heap[W.heap.size]? = some (.cells #[.func (.yield l) #[] #[]] 32 (0, 0)))
      (fun c pre V => c = .ret ∧ Jx (pre.map fun k => (k, zs.getD k 0)) V) ?hI ?hIx ⟨hji, hbi.mono hs, hyb⟩ ?round ?done ?stop
    case hI =>
      refine OwnFrom.and (fun s A B row hs hg hr => ownFrom_mono hJ (by omega) _ _ _ row hs hg hr) (OwnFrom.and ?_ ?_)
      · exact fun s A B row hs hg hr => hs.grown hg (Nat.le_trans hs' hs.size) (fun k e => by have := (hr k e).1; omega)
      · exact fun s A B row hs hg hr => (hg.block _ (Array.getElem?_eq_some_iff.1 hs).1 (fun e => by have := (hr _ e.symm).1; omega)).trans hs
    case hIx => exact fun c s A B row hs hg hr => ⟨hs.1, ownFrom_mono hJx (by omega) _ _ _ row hs.2 hg hr⟩
    case round =>
      rintro l' pre x V0 ⟨rest, hpr⟩ _ hi0
      gi_wp2
      refine ⟨Keep.refl _ _ _, ?_, hi0, ?_⟩
      · first | trivial | rfl
      rintro V - - - hsz ⟨hj, hB, hbx⟩
      clear hi0
      have hxn : x < n := by
        have hx : x ∈ (List.range n).map fun i => n - 1 - i := by rw [hpr]; simp
        obtain ⟨i, hi, rfl⟩ := List.mem_map.1 hx
        have := List.mem_range.1 hi
        omega
      have hBW : Below w.heap.size w V := hW.trans hB
      have hv3 := HV0.out.fr (Fr.ofBelow hBW (fun _ => False)) (by simp) (by simp)
      have hz3 : (zs.map (Value.int .i64))[x]? = some (.int .i64 (zs.getD x 0)) := by
        rw [List.getElem?_map, List.getD_eq_getElem?_getD, List.getElem?_eq_getElem (by have := HZ.out; omega)]; rfl
      have hat := at_in base p r n _ x (zs.getD x 0) V hv3 hxn hn hz3
      have hbv3 : V.cell? ⟨bv, 0, none⟩ = some (.pointer (some ⟨p, 0, none⟩)) := (hBW.cell hbvw).trans hbv
      have hyb3 : V.cell? ⟨W.heap.size, 0, none⟩ = some (.func (.yield l) #[] #[]) := (cell_of_row V _ _ _ _ _ hbx).trans (by simp)
      obtain ⟨fn, tmps, assign, body, hy, hR⟩ := hY (pre.map fun k => (k, zs.getD k 0)) (x, zs.getD x 0) V ⟨rest.map fun k => (k, zs.getD k 0), by rw [hpr]; simp⟩ (by omega) hj
      dsimp only at hy
      have HR := Lib.hid hR
      have HP := Lib.hid hpr
      have HB := Lib.hid hB
      have HX := Lib.hid hbx
      have HA := Lib.hid hat
      clear hR hpr hB hbx hv3 hz3 hj hBW hat
      obtain ⟨zx, hzx⟩ : ∃ zx, zx = zs.getD x 0 := ⟨_, rfl⟩
      rw [← hzx] at hy HA HR
      have HZX := Lib.hid hzx
      clear hzx
      gi_wp2_with (refine ⟨trivial, ?_⟩; gi_at_call 14; refine (CallsIn.inRound l' (callsIn_wide.2 HA.out)).mono ?_; rintro e w' ⟨rfl, rfl⟩)
      refine (roundIn_in l' HR.out).mono ?_
      rintro e V3 ⟨hkeep, (⟨rfl, hJ3, hk3⟩ | ⟨rfl, hJx3⟩)⟩
      · have H3 := Lib.hid hJ3
        have HK := Lib.hid hkeep
        have HB3 := Lib.hid hk3
        clear hJ3 hkeep hk3
        gi_wp2
        refine ⟨HK.out.mono (by omega) (by omega), HK.out.same _ (by omega) (by omega), ?_, ?_, (HK.out.same _ (by omega) (by omega)).trans HX.out⟩
        · have := H3.out
          rw [HZX.out] at this
          rw [List.map_append]
          exact this
        · exact HB.out.trans HB3.out
      · have H3 := Lib.hid hJx3
        have HK := Lib.hid hkeep
        clear hJx3 hkeep
        gi_wp2
        refine ⟨HK.out.mono (by omega) (by omega), rfl, ?_⟩
        have := H3.out
        rw [HZX.out] at this
        rw [List.map_append]
        exact this
    case done =>
      rintro D V hD ⟨hj, hB, _⟩ hk
      gi_wp2
      refine ⟨by simp, .inl ⟨_, _, rfl, run_takeDeferred hk, ?_⟩⟩
      exact ⟨_, results_none rfl _ _ _, ⟨_, rfl⟩, .inl (hJ.putObj _ hj (by omega) hk rfl)⟩
    case stop =>
      rintro D c pre V hD hpre hne ⟨rfl, hjx⟩ hk
      gi_wp2
      refine ⟨by simp, .inl ⟨_, _, rfl, run_takeDeferred hk, ?_⟩⟩
      exact ⟨_, results_none rfl _ _ _, ⟨_, rfl⟩, .inr ⟨_, List.IsPrefix.map _ hpre, by simpa using hne, hJx.putObj _ hjx (by omega) hk rfl⟩⟩

end Go.Proofs.Ytfijpjnadgdfcaa.VecI
