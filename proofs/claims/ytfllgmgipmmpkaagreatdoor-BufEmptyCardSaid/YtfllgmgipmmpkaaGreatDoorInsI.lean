/-
  slices.Insert at []int: over a row that the call owns, of whatever lies in another block.
-/
import Derived.Test.YtfllgmgipmmpkaaGreatDoorIns
import Derived.Test.YtfllgmgipmmpkaaGreatDoorVecI
import Derived.Shelf.Spec.SlicesInsertGrow
import Derived.Deep.RegionLaw
set_option linter.unusedVariables false
set_option linter.unusedSimpArgs false
set_option maxRecDepth 100000
namespace Go.Proofs.YtfllgmgipmmpkaaGreatDoor.VecI
open Go Go.RowKit Go.Proofs.YtfllgmgipmmpkaaGreatDoor.Vk Go.Lib

theorem extOverlaps (w : World) (x y : Value) {b : Bool} (h : (Extern.SlicesOverlaps.overlaps #[111, 111] #[4] #[x, y]).run Tryz.prog w = .ok (.bool b) w) :
    (callFunc 113 #[x, y]).run Tryz.prog w = .ok (.value (.bool b)) w := by
  rw [run_callFunc_extern Tryz.func113 (by kernel_rfl) (by kernel_rfl) (by kernel_rfl) (e := Extern.SlicesOverlaps.overlaps #[111, 111] #[4]) (by kernel_rfl), h]
  rfl

theorem sizeE (w : World) : (Go.sizeOf E).run Tryz.prog w = .ok 1 w := by kernel_rfl
theorem info1 : (Tryz.prog.info? E).map (·.size) = some 1 := by kernel_rfl

/-- No value to insert. -/
theorem sins_none (base : Nat) (b : Option Addr) (n c i : Nat) (xs : List Value) (xb : Option Addr) (xc : Nat) (w : World) (hown : w.ownsRow base E 1 (.slice b n c) n xs) (hi : i ≤ n) (hn : n ≤ 1000000) :
    Calls Tryz.prog 106 #[.slice b n c, .int .i64 i, .slice xb 0 xc] w fun e w' => e = .returned (.slice b n c) ∧ w = w' := by
  rcases hown.2 with ⟨h, rfl⟩ | ⟨g, cap, cur, h, _, _, hnc, hm, _⟩
  · simp only [Value.slice.injEq] at h
    obtain ⟨rfl, _, rfl⟩ := h
    obtain rfl : i = 0 := by omega
    clear hown
    go_enter Tryz.func106, Tryz.ntmps106
    go_wp2
    go_ret
    exact ⟨rfl, rfl⟩
  · simp only [Value.slice.injEq] at h
    obtain ⟨rfl, _, rfl⟩ := h
    clear hown
    go_enter Tryz.func106, Tryz.ntmps106
    go_wp2
    all_goals go_ret
    all_goals exact ⟨rfl, rfl⟩

/-- At the end. -/
theorem sins_end (base : Nat) (b : Option Addr) (n c : Nat) (xs : List Value) (x : Value) (m : Nat) (news : List Value) (w : World) (hown : w.ownsRow base E 1 (.slice b n c) n xs)
    (hs : SrcV w 1 x m news) (hm : 0 < m) (hn : n ≤ 1000000) (hm2 : m ≤ 1000000) (hbase : base ≤ w.heap.size) :
    Calls Tryz.prog 106 #[.slice b n c, .int .i64 n, x] w fun e w' => ∃ b' c', e = .returned (.slice b' (n + m) c') ∧ w'.ownsRow base E 1 (.slice b' (n + m) c') (n + m) (xs ++ news) ∧ w.grownBy w' (Value.slice b n c).ownBlock ∧ NewRow w (.slice b n c) (.slice b' (n + m) c') := by
  obtain ⟨i0, hi, hz0, hz1, hz2⟩ := info_parts infoE
  obtain ⟨xb, xo, xc, rfl, hxc⟩ : ∃ b off c, x = .slice (some ⟨b, off, none⟩) m c ∧ ∀ j u, news[j]? = some u → w.cell? ⟨b, off + j, none⟩ = some u := by
    rcases hs.2.2.2 with ⟨_, _, h⟩ | ⟨b, o, c, h, _, _, h'⟩
    · omega
    · exact ⟨b, o, c, h, h'⟩
  have HX := Lib.hid hxc
  clear hxc
  have hml : n ≤ c := by
    rcases hown.2 with ⟨h, rfl⟩ | ⟨g, cap, cur, h, _, _, hnc, hm, _⟩
    · omega
    · simp only [Value.slice.injEq] at h; omega
  have hcl : c ≤ 9223372036854775807 := by
    rcases hown.2 with ⟨h, rfl⟩ | ⟨g, cap, cur, h, _, _, hnc, hm, _⟩
    · simp only [Value.slice.injEq] at h; omega
    · simp only [Value.slice.injEq] at h; unfold maxLen at hm; omega
  have hbn : b = none → n = 0 := by
    rcases hown.2 with ⟨h, rfl⟩ | ⟨g, cap, cur, h, _, _, hnc, hm, _⟩
    · intro _; rfl
    · simp only [Value.slice.injEq] at h; intro hb; rw [hb] at h; simp at h
  have hz1' : ¬ ((m : Int) = 0) := by omega
  cases b with
  | none =>
    obtain rfl := hbn rfl
    clear hbn
    go_enter Tryz.func106, Tryz.ntmps106
    go_wp2_with (at_builtin; go_must (refine append_srcv _ rfl _ _ 111 rfl base E i0 (.int .i64 0) 1 8 underS hi hz0 hz1 hz2 rfl (by decide) _ 0 xs rfl hown _ m news rfl hs (by simp only [maxLen]; omega) (by omega) hbase ?_); intro b' c' w1 hown1 hg hnr)
    go_ret
    refine ⟨b', c', ?_, hown1, hg, hnr⟩
    rw [Nat.zero_add]; rfl
  | some a =>
    clear hbn
    go_enter Tryz.func106, Tryz.ntmps106
    go_wp2_with (at_builtin; go_must (refine append_srcv _ rfl _ _ 111 rfl base E i0 (.int .i64 0) 1 8 underS hi hz0 hz1 hz2 rfl (by decide) _ n xs rfl hown _ m news rfl hs (by simp only [maxLen]; omega) (by omega) hbase ?_); intro b' c' w1 hown1 hg hnr)
    all_goals go_ret
    all_goals exact ⟨_, _, rfl, hown1, hg, hnr⟩

set_option maxHeartbeats 1000000 in
set_option maxRecDepth 100000 in
/-- Within, and there is room. -/
theorem sins_shift (base g : Nat) (n c i : Nat) (xs : List Value) (x : Value) (m : Nat) (news : List Value) (w : World) (hown : w.ownsRow base E 1 (.slice (some ⟨g, 0, none⟩) n c) n xs) (h1x : ∀ u ∈ xs, u.oneCell' = true)
    (hs : SrcV w 1 x m news) (hxb : blk x ≠ some g) (hm : 0 < m) (hi : i < n) (hn : n ≤ 1000000) (hm2 : m ≤ 1000000) (hroom : n + m ≤ c) :
    Calls Tryz.prog 106 #[.slice (some ⟨g, 0, none⟩) n c, .int .i64 i, x] w fun e w' => ∃ b' c', e = .returned (.slice b' (n + m) c') ∧ w'.ownsRow base E 1 (.slice b' (n + m) c') (n + m) (xs.take i ++ news ++ xs.drop i) ∧ w.grownBy w' (some g) ∧ NewRow w (.slice (some ⟨g, 0, none⟩) n c) (.slice b' (n + m) c') := by
  obtain ⟨i0, hi0, hz0, hzs, hzb⟩ := info_parts infoE
  obtain ⟨xb, xo, xc, rfl, hxc⟩ : ∃ b off c, x = .slice (some ⟨b, off, none⟩) m c ∧ ∀ j u, news[j]? = some u → w.cell? ⟨b, off + j, none⟩ = some u := by
    rcases hs.2.2.2 with ⟨_, _, h⟩ | ⟨b, o, c, h, _, _, h'⟩
    · omega
    · exact ⟨b, o, c, h, h'⟩
  have hvb : xb ≠ g := fun e => hxb (by simp [blk, e])
  obtain ⟨cur, hbg, hgg, hcm, hcs, htk⟩ : ∃ cur : Array Value, base ≤ g ∧ w.heap[g]? = some (.cells cur E (0, 0)) ∧ c ≤ maxLen ∧ cur.size = c * 1 ∧ cur.toList.take (n * 1) = xs := by
    rcases hown.2 with ⟨h, _⟩ | ⟨g', cap, cur, h, hb, hg, hnc, hm, hcs, htk⟩
    · simp at h
    · simp only [Value.slice.injEq, Option.some.injEq, Addr.mk.injEq, and_true, true_and] at h
      obtain ⟨rfl, rfl⟩ := h
      exact ⟨cur, hb, hg, hm, hcs, htk⟩
  have hvl : news.length = m := by have := hs.1; omega
  have hcl : xs.length = n := by have := hown.1; omega
  have h1v := hs.2.1
  have hc63 : c ≤ 9223372036854775807 := by simpa [maxLen] using hcm
  have hz1 : ¬ ((m : Int) = 0) := by omega
  have hz2 : ¬ ((i : Int) = (n : Int)) := by omega
  have hua : ∃ u, w.cell? ⟨xb, xo, none⟩ = some u := ⟨_, by have := hxc 0 _ (List.getElem?_eq_getElem (by omega)); simpa using this⟩
  obtain ⟨u0, hu0⟩ := hua
  have hov : ∀ lb cb, (callFunc 113 #[.slice (some ⟨xb, xo, none⟩) m xc, .slice (some ⟨g, i + m, none⟩) lb cb]).run Tryz.prog w = .ok (.value (.bool false)) w := fun lb cb =>
    extOverlaps w _ _ (run_overlaps_own w 111 4 E underS 1 sizeE ⟨xb, xo, none⟩ g (i + m) m xc lb cb hvb u0 hu0 cur E hgg)
  have hcs' : ∀ j v, xs[j]? = some v → w.cell? ⟨g, 0 + j, none⟩ = some v := fun j v hj => by
    have hlt := (List.getElem?_eq_some_iff.1 hj).1
    rw [Nat.zero_add, hown.cellAt j (by omega)]; exact hj
  have hsp : ∀ j, j < n + m → (w.cell? ⟨g, 0 + j, none⟩).isSome = true := fun j hj => by
    rw [cell_of_row w g _ _ _ _ hgg, Array.getElem?_eq_getElem (by omega)]; rfl
  have hfz : ∀ j, w.frozen? ⟨g, j, none⟩ = false := fun j => hown.frozenAt j
  have hdl : (xs.drop i).length = n - i := by rw [List.length_drop, hcl]
  have hw1 : IntKind.i64.wrap ((i : Int) + (m : Int)) = (i : Int) + (m : Int) := by rw [IntKind.wrap_i64]; omega
  have hb1 : (0 : Int) ≤ (i : Int) + (m : Int) := by omega
  have hin : i ≤ n := by omega
  have htn : ((i : Int) + (m : Int)).toNat = i + m := by omega
  have hb2 : ¬ (c = i + m) := by omega
  have hb3 : (i : Int) ≤ (n : Int) + (m : Int) := by omega
  have hb4 : ¬ (c = i) := by omega
  have hcp1 : ∀ ty dc sc, (Builtin.copy_ #[111, 111] ty #[.slice (some ⟨g, i + m, none⟩) (n + m - (i + m)) dc, .slice (some ⟨g, i, none⟩) (n + m - i) sc]).run Tryz.prog w.drew = .ok (goInt (xs.drop i).length) (w.drew.setCells g (i + m) (xs.drop i)) := fun ty dc sc =>
    run_copy_cells w.drew _ _ ty E g (i + m) (n + m - (i + m)) dc ⟨g, i, none⟩ (n + m - i) sc (xs.drop i) underS info1 (by rw [hdl]; simp only [Nat.min_def]; split <;> omega)
      (fun j v hj => by rw [Addr.add_lit]; have := hcs' (i + j) v (by rwa [List.getElem?_drop] at hj); simpa using this)
      (fun j hj => by have := hsp (i + m + j) (by omega); simpa using this) (fun j hj => hfz _) (fun v hv => h1x v (List.mem_of_mem_drop hv))
  obtain ⟨W1, hW1⟩ : ∃ W1, W1 = w.drew.setCells g (i + m) (xs.drop i) := ⟨_, rfl⟩
  have hg1 : W1.heap[g]? = some (.cells (splice cur.toList (i + m) (xs.drop i)).toArray E (0, 0)) := by
    rw [hW1]; exact setCells_heap g _ _ w.drew cur E hgg (by omega)
  have hL1 : (splice cur.toList (i + m) (xs.drop i)).length = c := by rw [length_splice _ _ _ (by simp; omega)]; simp; omega
  have hcp2 : ∀ (W : World), (∀ x, W.cell? x = W1.cell? x) → (∀ x, W.frozen? x = W1.frozen? x) → ∀ ty dc, (Builtin.copy_ #[111, 111] ty #[.slice (some ⟨g, i, none⟩) (n + m - i) dc, .slice (some ⟨xb, xo, none⟩) m xc]).run Tryz.prog W = .ok (goInt news.length) (W.setCells g i news) := fun W hWc hWf ty dc =>
    run_copy_cells W _ _ ty E g i (n + m - i) dc ⟨xb, xo, none⟩ m xc news underS info1 (by rw [hvl]; simp only [Nat.min_def]; split <;> omega)
      (fun j v hj => by
        rw [Addr.add_lit, hWc, hW1, World.cell?_setCells_out g _ _ _ _ (fun h _ => absurd h hvb)]
        exact hxc j v hj)
      (fun j hj => by rw [hWc, cell_of_row W1 g _ _ _ _ hg1, Array.getElem?_eq_getElem (by simp [hL1]; omega)]; rfl) (fun j hj => by rw [hWf]; simp [World.frozen?, hg1]) h1v
  rw [← hW1] at hcp1
  have HO : Hid (W1 = w.drew.setCells g (i + m) (xs.drop i) ∧ W1.heap[g]? = some (.cells (splice cur.toList (i + m) (xs.drop i)).toArray E (0, 0)) ∧ cur.toList.take n = xs ∧ cur.size = c ∧ xs.length = n ∧ news.length = m) := ⟨hW1, hg1, by simpa using htk, by omega, hcl, hvl⟩
  have HX := Lib.hid hxc
  clear hxc hcs' hsp hfz hW1 hg1 hL1 hgg htk hcs hown hs hcl hvl hdl h1v h1x hu0
  go_enter Tryz.func106, Tryz.ntmps106
  go_wp2_with (simp only [hov])
  go_region_law (refine step_copy_runI rfl _ _ 111 111 rfl _ _ (by simp [Act.eval, Act.put]) (by simp [Act.eval, Act.put]) (hcp1 _ _ _) ?_)
  go_wp2_with (at_builtin; refine wpList_copy_runI _ rfl _ _ 111 111 rfl _ _ rfl rfl (hcp2 _ (fun _ => rfl) (fun _ => rfl) _ _) ?_)
  go_ret
  refine ⟨some ⟨g, 0, none⟩, c, rfl, ?_, ?_, .inl rfl⟩
  · obtain ⟨hW1, hg1, htk, hcs, hcl, hvl⟩ := HO.out
    have hh := setCells_heap g news i W1 _ E hg1 (by rw [hvl, List.size_toArray, length_splice _ _ _ (by simp; omega)]; simp; omega)
    refine ⟨by simp [hcl, hvl]; omega, .inr ⟨g, c, _, rfl, hbg, hh, hroom, hcm, ?_, ?_⟩⟩
    · simp [splice, hcl, hvl, hcs]; omega
    · simp only [Nat.mul_one]
      exact shift_list cur.toList xs news n m i (by simp; omega) htk hvl (by omega)
  · obtain ⟨hW1, _⟩ := HO.out
    rw [hW1]
    have a := grownBy_setCells w.drew g (xs.drop i) (i + m)
    have b := grownBy_setCells (w.drew.setCells g (i + m) (xs.drop i)) g news i
    exact ⟨b.os.trans a.os, b.tape.trans a.tape, b.output.trans a.output, Nat.le_trans a.size b.size, fun k hk hn => (b.block k (Nat.lt_of_lt_of_le hk a.size) hn).trans (a.block k hk hn)⟩

set_option maxHeartbeats 2000000 in
set_option maxRecDepth 100000 in
/-- Within, and there is no room: a new row. -/
theorem sins_grow (base g : Nat) (n c i : Nat) (xs : List Value) (x : Value) (m : Nat) (news : List Value) (w : World) (hown : w.ownsRow base E 1 (.slice (some ⟨g, 0, none⟩) n c) n xs) (h1x : ∀ u ∈ xs, u.oneCell' = true)
    (hs : SrcV w 1 x m news) (hm : 0 < m) (hi : i < n) (hn : n ≤ 1000000) (hm2 : m ≤ 1000000) (hroom : c < n + m) :
    Calls Tryz.prog 106 #[.slice (some ⟨g, 0, none⟩) n c, .int .i64 i, x] w fun e w' => ∃ b' c', e = .returned (.slice b' (n + m) c') ∧ w'.ownsRow base E 1 (.slice b' (n + m) c') (n + m) (xs.take i ++ news ++ xs.drop i) ∧ w.grownBy w' none ∧ NewRow w (.slice (some ⟨g, 0, none⟩) n c) (.slice b' (n + m) c') := by
  obtain ⟨i0, hi0, hz0, hzs, hzb⟩ := info_parts infoE
  obtain ⟨xb, xo, xc, rfl, hxc⟩ : ∃ b off c, x = .slice (some ⟨b, off, none⟩) m c ∧ ∀ j u, news[j]? = some u → w.cell? ⟨b, off + j, none⟩ = some u := by
    rcases hs.2.2.2 with ⟨_, _, h⟩ | ⟨b, o, c, h, _, _, h'⟩
    · omega
    · exact ⟨b, o, c, h, h'⟩
  obtain ⟨cur, hbg, hgg, hnc, hcm, hcs, htk⟩ : ∃ cur : Array Value, base ≤ g ∧ w.heap[g]? = some (.cells cur E (0, 0)) ∧ n ≤ c ∧ c ≤ maxLen ∧ cur.size = c * 1 ∧ cur.toList.take (n * 1) = xs := by
    rcases hown.2 with ⟨h, _⟩ | ⟨g', cap, cur, h, hb, hg, hnc, hm, hcs, htk⟩
    · simp at h
    · simp only [Value.slice.injEq, Option.some.injEq, Addr.mk.injEq, and_true, true_and] at h
      obtain ⟨rfl, rfl⟩ := h
      exact ⟨cur, hb, hg, hnc, hm, hcs, htk⟩
  have hvl : news.length = m := by have := hs.1; omega
  have hcl : xs.length = n := by have := hown.1; omega
  have h1v := hs.2.1
  have hz1 : ¬ ((m : Int) = 0) := by omega
  have hz2 : ¬ ((i : Int) = (n : Int)) := by omega
  have hz3 : (c : Int) < (n : Int) + (m : Int) := by omega
  have hbw : g < w.heap.size := (Array.getElem?_eq_some_iff.1 hgg).1
  have hbase : base ≤ w.heap.size := by omega
  have hvw : xb < w.heap.size := World.block_lt_of_cell? w _ (hxc 0 _ (List.getElem?_eq_getElem (by omega)))
  have hcs' : ∀ j v, xs[j]? = some v → w.cell? ⟨g, j, none⟩ = some v := fun j v hj => by
    have hlt := (List.getElem?_eq_some_iff.1 hj).1
    rw [hown.cellAt j (by omega)]; exact hj
  have hkk : (n : Int) + (m : Int) - (i : Int) = ((n + m - i : Nat) : Int) := by omega
  have hik : i + (n + m - i) = n + m := by omega
  have hold : (Builtin.firstCells i0.size i (.slice (some ⟨g, 0, none⟩) i c)).run Tryz.prog w.drew = .ok (xs.take i).toArray w.drew := by
    rw [hzs]
    exact run_firstCells_some w.drew 1 i ⟨g, 0, none⟩ i c (xs.take i) (by rw [List.length_take]; omega) (fun j v hj => by
      rw [Addr.add_lit, Nat.zero_add]
      rw [List.getElem?_take] at hj
      split at hj
      · exact hcs' j v hj
      · cases hj)
  have hrz : ∀ ty, (Builtin.append_ #[111, 3] ty #[.slice (some ⟨g, 0, none⟩) i c, .int .i64 ((n : Int) + (m : Int) - (i : Int))]).run Tryz.prog w =
      .ok (.slice (some ⟨w.heap.size, 0, none⟩) (n + m) (grownCap w (n + m) c E)) (w.drew.alloc (.cells ((xs.take i).toArray ++ Builtin.zeroCells (Value.int .i64 0).cells (n + m - i) ++ Builtin.zeroCells (Value.int .i64 0).cells (grownCap w (n + m) c E - (n + m))) E)) := fun ty => by
    have h := Lib.run_append_grow_zeros w 111 3 ty E i0 _ .i64 .i64 underS (by kernel_rfl) hi0 hz0 (some ⟨g, 0, none⟩) i c (xs.take i) hold (n + m - i) (by omega) (by omega) (by omega) (by omega) (by rw [hzb]; omega) (by rw [hzb, hik]; exact growslice_fits hroom (by omega))
    rw [hik] at h
    rw [hkk]
    exact h
  obtain ⟨G, hG⟩ : ∃ G, G = grownCap w (n + m) c E := ⟨_, rfl⟩
  obtain ⟨ROW, hROW⟩ : ∃ ROW : Array Value, ROW = (xs.take i).toArray ++ Builtin.zeroCells (Value.int .i64 0).cells (n + m - i) ++ Builtin.zeroCells (Value.int .i64 0).cells (G - (n + m)) := ⟨_, rfl⟩
  rw [← hG] at hrz
  rw [← hROW] at hrz
  have hGn : n + m ≤ G := by rw [hG]; exact grownCap_ge w _ _ _
  have hGm : G ≤ maxLen := by rw [hG]; exact grownCap_le_maxLen w (n + m) c E (by unfold maxLen; omega)
  have hG63 : G ≤ 9223372036854775807 := by have := hGm; unfold maxLen at this; omega
  have hRl : ROW.size = G := by
    rw [hROW]
    simp [Builtin.zeroCells, Value.cells]
    omega
  have hRt : ROW.toList.take i = xs.take i := by
    rw [hROW, Array.toList_append, Array.toList_append, List.append_assoc]
    exact List.take_left' (by simp; omega)
  obtain ⟨W1, hW1⟩ : ∃ W1, W1 = w.drew.alloc (.cells ROW E) := ⟨_, rfl⟩
  rw [← hW1] at hrz
  have hN1 : W1.heap[w.heap.size]? = some (.cells ROW E (0, 0)) := by rw [hW1]; exact heap_alloc_new w.drew _
  have hOb : ∀ j v, w.cell? ⟨g, j, none⟩ = some v → W1.cell? ⟨g, j, none⟩ = some v := fun j v h => by rw [hW1, World.cell?_alloc_past (w := w.drew) _ g j hbw]; exact h
  have hOv : ∀ j v, w.cell? ⟨xb, j, none⟩ = some v → W1.cell? ⟨xb, j, none⟩ = some v := fun j v h => by rw [hW1, World.cell?_alloc_past (w := w.drew) _ xb j hvw]; exact h
  have hcpA : ∀ (W : World), (∀ x, W.cell? x = W1.cell? x) → (∀ x, W.frozen? x = W1.frozen? x) → ∀ ty dc, (Builtin.copy_ #[111, 111] ty #[.slice (some ⟨w.heap.size, i, none⟩) (n + m - i) dc, .slice (some ⟨xb, xo, none⟩) m xc]).run Tryz.prog W = .ok (goInt news.length) (W.setCells w.heap.size i news) := fun W hWc hWf ty dc =>
    run_copy_cells W _ _ ty E w.heap.size i (n + m - i) dc ⟨xb, xo, none⟩ m xc news underS info1 (by rw [hvl]; simp only [Nat.min_def]; split <;> omega)
      (fun j v hj => by rw [Addr.add_lit, hWc]; exact hOv _ v (hxc j v hj))
      (fun j hj => by rw [hWc, cell_of_row W1 _ _ _ _ _ hN1, Array.getElem?_eq_getElem (by omega)]; rfl) (fun j hj => by rw [hWf]; simp [World.frozen?, hN1]) h1v
  have hGi : ¬ (G = i) := by omega
  have hGim : ¬ (G = i + m) := by omega
  have hci : ¬ (c = i) := by omega
  have hbN : g ≠ w.heap.size := by omega
  have hdl : (xs.drop i).length = n - i := by rw [List.length_drop, hcl]
  have hN2 : (W1.setCells w.heap.size i news).heap[w.heap.size]? = some (.cells (splice ROW.toList i news).toArray E (0, 0)) := setCells_heap _ news i W1 ROW E hN1 (by omega)
  have hL2 : (splice ROW.toList i news).length = G := by rw [length_splice _ _ _ (by simp; omega)]; simpa using hRl
  have hcpB : ∀ (W : World), (∀ x, W.cell? x = (W1.setCells w.heap.size i news).cell? x) → (∀ x, W.frozen? x = (W1.setCells w.heap.size i news).frozen? x) → ∀ ty dc sc, (Builtin.copy_ #[111, 111] ty #[.slice (some ⟨w.heap.size, i + m, none⟩) (n + m - (i + m)) dc, .slice (some ⟨g, i, none⟩) (n - i) sc]).run Tryz.prog W = .ok (goInt (xs.drop i).length) (W.setCells w.heap.size (i + m) (xs.drop i)) := fun W hWc hWf ty dc sc =>
    run_copy_cells W _ _ ty E w.heap.size (i + m) (n + m - (i + m)) dc ⟨g, i, none⟩ (n - i) sc (xs.drop i) underS info1 (by rw [hdl]; simp only [Nat.min_def]; split <;> omega)
      (fun j v hj => by
        rw [Addr.add_lit, hWc, World.cell?_setCells_out _ _ _ _ _ (fun h _ => absurd h hbN)]
        exact hOb _ v (hcs' (i + j) v (by rwa [List.getElem?_drop] at hj)))
      (fun j hj => by rw [hWc, cell_of_row _ _ _ _ _ _ hN2, Array.getElem?_eq_getElem (by simp [hL2]; omega)]; rfl)
      (fun j hj => by rw [hWf]; simp [World.frozen?, hN2]) (fun v hv => h1x v (List.mem_of_mem_drop hv))
  subst hW1
  have hE1 : ∀ x, ((w.alloc (.cells ROW E)).drew).cell? x = (w.drew.alloc (.cells ROW E)).cell? x := fun x => rfl
  have hE2 : ∀ x, ((w.alloc (.cells ROW E)).drew).frozen? x = (w.drew.alloc (.cells ROW E)).frozen? x := fun x => rfl
  have hF1 : ∀ x, (((w.alloc (.cells ROW E)).drew.setCells w.heap.size i news).drew).cell? x = ((w.drew.alloc (.cells ROW E)).setCells w.heap.size i news).cell? x := fun x => rfl
  have hF2 : ∀ x, (((w.alloc (.cells ROW E)).drew.setCells w.heap.size i news).drew).frozen? x = ((w.drew.alloc (.cells ROW E)).setCells w.heap.size i news).frozen? x := fun x => rfl
  have hw1 : IntKind.i64.wrap ((i : Int) + (m : Int)) = (i : Int) + (m : Int) := by rw [IntKind.wrap_i64]; omega
  have hb1 : (0 : Int) ≤ (i : Int) + (m : Int) := by omega
  have hin : i ≤ n := by omega
  have htn : ((i : Int) + (m : Int)).toNat = i + m := by omega
  have hb3 : (i : Int) ≤ (n : Int) := by omega
  have HO : Hid ((w.drew.alloc (.cells ROW E)).heap[w.heap.size]? = some (.cells ROW E (0, 0)) ∧ (splice ROW.toList i news).length = G ∧ ROW.toList.take i = xs.take i ∧ ROW.size = G ∧ xs.length = n ∧ news.length = m) := ⟨hN1, hL2, hRt, hRl, hcl, hvl⟩
  clear hkk hik hold hROW hG hRl hxc hcs' hN1 hN2 hL2 hRt hOb hOv hgg htk hcs hown hs hcl hvl hdl h1v h1x
  go_enter Tryz.func106, Tryz.ntmps106
  go_wp2_with (first
    | (at_builtin; refine Lib.wpList_append_run _ rfl _ _ _ _ rfl _ _ rfl rfl _ _ (hrz _) ?_)
    | (at_builtin; refine wpList_copy_runI _ rfl _ _ 111 111 rfl _ _ rfl rfl (hcpA _ hE1 hE2 _ _) ?_)
    | (at_builtin; refine wpList_copy_runI _ rfl _ _ 111 111 rfl _ _ rfl rfl (hcpB _ (fun _ => rfl) (fun _ => rfl) _ _ _) ?_))
  go_region_law (refine step_copy_runI rfl _ _ 111 111 rfl (.slice (some ⟨w.heap.size, i + m, none⟩) (n + m - (i + m)) (G - (i + m))) (.slice (some ⟨g, i, none⟩) (n - i) (c - i)) (by simp [Act.eval, Act.put]) (by simp [Act.eval, Act.put]) (hcpB _ hF1 hF2 3 (G - (i + m)) (c - i)) ?_)
  go_wp2
  go_ret
  refine ⟨some ⟨w.heap.size, 0, none⟩, G, rfl, ?_, ?_, .inr ⟨_, rfl, Nat.le_refl _⟩⟩
  · obtain ⟨hN1, hL2, hRt, hRl, hcl, hvl⟩ := HO.out
    have h1 := setCells_heap w.heap.size news i (w.drew.alloc (.cells ROW E)) ROW E hN1 (by omega)
    have h2 := setCells_heap w.heap.size (xs.drop i) (i + m) ((w.alloc (.cells ROW E)).drew.setCells w.heap.size i news).drew _ E h1 (by simp [hL2]; omega)
    refine ⟨by simp [hcl, hvl]; omega, .inr ⟨w.heap.size, G, _, rfl, hbase, h2, hGn, hGm, ?_, ?_⟩⟩
    · rw [List.size_toArray, length_splice _ _ _ (by simp [hL2]; omega)]; simp [hL2]
    · simp only [Nat.mul_one]
      exact grow_list ROW.toList xs news n m i (by simp; omega) hRt hcl hvl (by omega)
  · have b := setCells_rest w.heap.size news i (w.drew.alloc (.cells ROW E))
    have d := setCells_rest w.heap.size (xs.drop i) (i + m) ((w.alloc (.cells ROW E)).drew.setCells w.heap.size i news).drew
    refine ⟨d.1.trans b.1, d.2.1.trans b.2.1, d.2.2.1.trans b.2.2.1, ?_, fun k hk _ => ?_⟩
    · have e1 := d.2.2.2; have e2 := b.2.2.2
      have e3 : ((w.alloc (.cells ROW E)).drew.setCells w.heap.size i news).drew.heap.size = ((w.drew.alloc (.cells ROW E)).setCells w.heap.size i news).heap.size := rfl
      rw [e1, e3, e2]; simp
    · rw [setCells_other _ _ _ _ _ (by omega)]
      show ((w.drew.alloc (.cells ROW E)).setCells w.heap.size i news).heap[k]? = _
      rw [setCells_other _ _ _ _ _ (by omega)]
      exact Below.heap_alloc w.drew _ k hk

/-- slices.Insert over an owned row, of whatever lies in another block. -/
theorem sins_any (base : Nat) (b : Option Addr) (n c i : Nat) (xs : List Value) (x : Value) (m : Nat) (news : List Value) (w : World) (hown : w.ownsRow base E 1 (.slice b n c) n xs) (h1x : ∀ u ∈ xs, u.oneCell' = true)
    (hs : SrcV w 1 x m news) (hxb : 0 < m → ∀ j, blk x = some j → (Value.slice b n c).ownBlock ≠ some j) (hi : i ≤ n) (hn : n ≤ 1000000) (hm2 : m ≤ 1000000) (hbase : base ≤ w.heap.size) :
    Calls Tryz.prog 106 #[.slice b n c, .int .i64 i, x] w fun e w' => ∃ b' c', e = .returned (.slice b' (n + m) c') ∧ w'.ownsRow base E 1 (.slice b' (n + m) c') (n + m) (xs.take i ++ news ++ xs.drop i) ∧ w.grownBy w' (Value.slice b n c).ownBlock ∧ NewRow w (.slice b n c) (.slice b' (n + m) c') := by
  have hcl : xs.length = n := by have := hown.1; omega
  by_cases hm : m = 0
  · subst hm
    have hnil : news = [] := List.eq_nil_of_length_eq_zero (by have := hs.1; omega)
    subst hnil
    obtain ⟨xb, xc, rfl⟩ : ∃ xb xc, x = .slice xb 0 xc := by
      rcases hs.2.2.2 with ⟨ao, h, _⟩ | ⟨b, o, c, h, _, _, _⟩
      · exact ⟨_, _, h⟩
      · exact ⟨_, _, h⟩
    refine (sins_none base b n c i xs xb xc w hown hi hn).mono ?_
    rintro e w' ⟨rfl, rfl⟩
    exact ⟨b, c, rfl, by simpa using hown, ⟨rfl, rfl, rfl, Nat.le_refl _, fun _ _ _ => rfl⟩, .inl rfl⟩
  · by_cases hin : i = n
    · subst hin
      refine (sins_end base b i c xs x m news w hown hs (by omega) hn hm2 hbase).mono ?_
      rintro e w' ⟨b', c', he, h1, h2, h3⟩
      refine ⟨b', c', he, ?_, h2, h3⟩
      rw [List.take_of_length_le (by omega), List.drop_eq_nil_of_le (by omega), List.append_nil]
      exact h1
    · obtain ⟨g, rfl⟩ : ∃ g, b = some ⟨g, 0, none⟩ := by
        rcases hown.2 with ⟨h, h0⟩ | ⟨g, cap, cur, h, _⟩
        · omega
        · simp only [Value.slice.injEq] at h; exact ⟨g, h.1⟩
      by_cases hroom : n + m ≤ c
      · refine (sins_shift base g n c i xs x m news w hown h1x hs ?_ (by omega) (by omega) hn hm2 hroom).mono ?_
        · intro h; exact hxb (by omega) g h rfl
        · rintro e w' ⟨b', c', he, h1, h2, h3⟩
          exact ⟨b', c', he, h1, h2, h3⟩
      · refine (sins_grow base g n c i xs x m news w hown h1x hs (by omega) (by omega) hn hm2 (by omega)).mono ?_
        rintro e w' ⟨b', c', he, h1, h2, h3⟩
        exact ⟨b', c', he, h1, ⟨h2.os, h2.tape, h2.output, h2.size, fun k hk _ => h2.block k hk (by simp)⟩, h3⟩

/-- (*Vec).Insert at a place that there is. -/
theorem insert_in (base p : Nat) (r : Option Nat) (n : Nat) (xs : List Value) (i : Nat) (x : Value) (m : Nat) (news : List Value) (w : World) (h : IsVec w base 113 E 1 p r n xs) (h1x : ∀ u ∈ xs, u.oneCell' = true)
    (hs : SrcV w 1 x m news) (hxb : 0 < m → ∀ j, blk x = some j → r ≠ some j) (hi : i ≤ n) (hn : n ≤ 1000000) (hm2 : m ≤ 1000000) :
    Calls Tryz.prog 89 #[.pointer (some ⟨p, 0, none⟩), .int .i64 i, x] w fun e w' => e = .returned (.bool true) ∧
      ∃ r', IsVec w' base 113 E 1 p r' (n + m) (xs.take i ++ news ++ xs.drop i) ∧ Fr (fun b => b = p ∨ r = some b) w w' ∧ (r' = r ∨ ∃ g, r' = some g ∧ w.heap.size ≤ g) := by
  obtain ⟨sa, sc, h1, h2, h3, h4, h5⟩ := h
  have hc := cell_of_row w p 0 _ _ _ h1
  simp at hc
  have hp := (Array.getElem?_eq_some_iff.1 h1).1
  have hcon := sins_any base sa n sc i xs x m news w h3 h1x hs (by rw [h4]; exact hxb) hi hn hm2 (by omega)
  have H1 := Lib.hid h1
  have H4 := Lib.hid h4
  have H5 := Lib.hid h5
  have H3 := Lib.hid h3
  clear h1 h3 h4 h5 hs hxb h1x
  have hni : ¬ ((i : Int) < 0) := by omega
  have hni2 : ¬ ((n : Int) < (i : Int)) := by omega
  go_enter Tryz.func89, Tryz.ntmps89
  go_wp2_with fail
  refine hcon.mono ?_
  rintro e w1 ⟨b', c', rfl, hown, hg, hnr⟩
  have hb1 : w1.heap[p]? = w.heap[p]? := hg.block p hp (by rw [H4.out]; exact fun e => H5.out e.symm)
  have hc1 := cell_of_row w1 p 0 _ _ _ (hb1.trans H1.out)
  simp at hc1
  have hf1 : w1.frozen? ⟨p, 0, none⟩ = false := frozen_of_row w1 p 0 _ _ (hb1.trans H1.out)
  have HB := Lib.hid (hb1.trans H1.out)
  have HG := Lib.hid hg
  have HN := Lib.hid hnr
  have HW := Lib.hid hown
  clear hb1 hg hnr hown
  go_wp2
  go_ret
  have hne : (Value.slice b' (n + m) c').ownBlock ≠ some p := by
    rcases HN.out with h | ⟨g, h, hg⟩
    · rw [h, H4.out]; exact H5.out
    · rw [h]; intro e; injection e with e; omega
  have hfr : Fr (fun b => b = p) w1 (w1.setCell ⟨p, 0, none⟩ (.slice b' (n + m) c')) := Fr.setCell (S := fun b => b = p) (Fr.refl _ _) (fun _ => rfl) _
  refine ⟨rfl, _, ⟨b', c', ?_, h2, ownsRow_fr HW.out hfr (fun k hk e => hne (by rw [hk, e])), rfl, hne⟩, ?_, ?_⟩
  · have := heap_setCell_same w1 p 0 _ _ (.slice b' (n + m) c') HB.out
    simpa using this
  · exact ((Fr.refl _ w).grown HG.out (fun k hk _ => .inr (by rw [← H4.out, hk]))).setCell (fun _ => .inl rfl) _
  · rcases HN.out with h | ⟨g, h, hg⟩
    · exact .inl (h.trans H4.out)
    · exact .inr ⟨g, h, hg⟩

/-- (*Vec).Insert at a place that there isn't. -/
theorem insert_out (base p : Nat) (r : Option Nat) (n : Nat) (xs : List Value) (i : Int) (x : Value) (w : World) (h : IsVec w base 113 E 1 p r n xs) (hi : ¬ (0 ≤ i ∧ i ≤ n)) :
    Calls Tryz.prog 89 #[.pointer (some ⟨p, 0, none⟩), .int .i64 i, x] w fun e w' => e = .returned (.bool false) ∧ w = w' := by
  obtain ⟨sa, sc, h1, h2, h3, h4, h5⟩ := h
  have hc := cell_of_row w p 0 _ _ _ h1
  simp at hc
  clear h1 h3 h4 h5
  by_cases h0 : i < 0
  · go_enter Tryz.func89, Tryz.ntmps89
    go_wp2
    go_ret
    exact ⟨rfl, rfl⟩
  · have hn : (n : Int) < i := by omega
    go_enter Tryz.func89, Tryz.ntmps89
    go_wp2
    go_ret
    exact ⟨rfl, rfl⟩

end Go.Proofs.YtfllgmgipmmpkaaGreatDoor.VecI
