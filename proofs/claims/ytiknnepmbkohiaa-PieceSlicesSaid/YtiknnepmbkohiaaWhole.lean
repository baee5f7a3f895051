/-
  The law's own function `whole`: what it tells of a table.
-/
import Derived.Test.YtiknnepmbkohiaaKnown2
set_option linter.unusedVariables false
namespace Go.Proofs.Ytiknnepmbkohiaa.Tb
open Go Go.RowKit Go.Proofs.Ytiknnepmbkohiaa.Vk Go.Shelf
open VecP (E TV)
attribute [local go_sem] Oper.semAt_some

theorem tall_new (t : Nat) (w : World) : Calls Try.prog 16 #[.pointer (some ⟨t, 0, none⟩)] w fun e w' =>
    e = .returned (.func (.func 26) #[] #[.pointer (some ⟨w.heap.size, 0, none⟩)]) ∧ w.alloc (.cells #[.pointer (some ⟨t, 0, none⟩)] 24) = w' := by
  go_enter Try.func16, Try.ntmps16
  go_wp2
  go_ret
  exact ⟨rfl, rfl⟩

theorem Pc.str_list (B : Nat → List UInt8) (q : Pc) : (Pc.str B q).data.toList = q.txt B := rfl
theorem size_of_list (l : List UInt8) : (ByteArray.mk l.toArray).size = l.length := by show l.toArray.size = _; simp

/-- Strings, one behind another. -/
def cat (xs : List ByteArray) : ByteArray := xs.foldl (· ++ ·) ⟨#[]⟩
theorem cat_add (xs : List ByteArray) (x : ByteArray) : cat xs ++ x = cat (xs ++ [x]) := by simp [cat]
theorem app_list (a b : ByteArray) : (a ++ b).data.toList = a.data.toList ++ b.data.toList := by
  rw [ByteArray.data_append, Array.toList_append]
theorem cat_list (xs : List ByteArray) : (cat xs).data.toList = xs.flatMap (·.data.toList) := by
  have : ∀ (xs : List ByteArray) (a : ByteArray), (xs.foldl (· ++ ·) a).data.toList = a.data.toList ++ xs.flatMap (·.data.toList) := by
    intro xs
    induction xs with
    | nil => intro a; simp
    | cons x xs ih => intro a; rw [List.foldl_cons, ih, app_list, List.flatMap_cons, List.append_assoc]
  rw [cat, this]; rfl
theorem list_inj {a b : ByteArray} (h : a.data.toList = b.data.toList) : a = b := by
  cases a; cases b
  congr 1
  exact Array.toList_inj.1 h
section
variable {w : World} {base t : Nat} {F : Nat → Prop} {T : List UInt8} {most : Int} {edits np used : Nat}

/-- The pieces of a table, as strings, and its iterator. -/
theorem Tab.iter (h : Tab w base t F T most edits np used) (hnp : np ≤ 1000000) : ∃ xs : List ByteArray, xs.length = np ∧ xs.flatMap (·.data.toList) = T ∧ (∀ x ∈ xs, 0 < x.size) ∧
    ∀ (bt : Nat) (S : Nat → Prop), (∀ k, F k → ¬ S k) → ¬ S bt → (∀ k, S k → k < w.heap.size) → w.cell? ⟨bt, 0, none⟩ = some (.pointer (some ⟨t, 0, none⟩)) →
      Iter Try.prog 26 #[.pointer (some ⟨bt, 0, none⟩)] (fun s : ByteArray => #[.string s]) 9 (fun W W' => Fr (fun k => S k ∨ w.heap.size ≤ k) W W') xs w := by
  obtain ⟨p, r, b0, c0, l0, b1, c1, l1, ps, hx, rfl, hl, rfl⟩ := h
  refine ⟨ps.map (Pc.str (bufs l0 l1)), by simp, ?_, ?_, fun bt S h1 h2 h3 h4 => tall_iter hx bt hnp S h1 h2 h3 h4⟩
  · rw [← hx.text, List.flatMap_map]; rfl
  · intro x hxm
    obtain ⟨q, hq, rfl⟩ := List.mem_map.1 hxm
    rw [Pc.str, size_of_list, Pc.txt_length (hx.ok q hq)]
    exact (hx.ok q hq).2.1

theorem eqfs (x : Value) (W : World) : Sem.run Try.prog (Go.binOp .eql 45 (.func (.func 26) #[] #[x]) .nilFunc) W = .ok (.bool false) W := by kernel_rfl

set_option maxHeartbeats 4000000 in
set_option maxRecDepth 100000 in
theorem whole_any (h : Tab w base t F T most edits np used) (s : ByteArray) (hs : s.data.toList = T) (hT : T.length ≤ 100000) (hu : used ≤ 400000) :
    Calls Try.prog 13 #[.pointer (some ⟨t, 0, none⟩), .string s, .int .i64 edits] w fun e w' => e = .returned (.bool true) ∧ Below w.heap.size w w' := by
  obtain ⟨h1, h2, h3, h4, h5, h6, h7⟩ := h.facts
  obtain ⟨w1, hw1⟩ : ∃ w1, w1 = w.alloc (.cells #[.bool false] 4) := ⟨_, rfl⟩
  have hb1 : Below w.heap.size w w1 := by rw [hw1]; exact (Below.refl _ w).alloc (Nat.le_refl _) _
  have hs1 : w1.heap.size = w.heap.size + 1 := by rw [hw1]; simp
  have hsl := tslice (h.below hb1) 0 T.length (by omega) hT hu
  rw [List.drop_zero, List.take_length, ← hs] at hsl
  have hsz : s.data.toList.length = s.size := size_str s
  have hS : (ByteArray.mk s.data.toList.toArray) = s := rfl
  rw [hS] at hsl
  have hln := tlen (h.below hb1)
  have hTs : (T.length : Int) = (s.size : Int) := by rw [← hs, hsz]
  rw [hTs] at hln
  rw [hsz] at hsl
  rw [hw1] at hsl hln
  have HH := Lib.hid h
  have HW1 := Lib.hid (And.intro hw1 hb1)
  have hmx : Try.prog.follows .mixedOrders = true := by kernel_rfl
  clear h hw1 hb1
  refine (callsIn_wide (n := 9)).1 ?_
  refine callsIn_of_wp_marks Try.func13 rfl trivial ?_ rfl
  simp only [Try.ntmps13, List.size_toArray, List.length_cons, List.length_nil, Nat.reduceAdd, Nat.reduceSub, Array.replicate_succ, Array.replicate_zero, List.push_toArray, List.append_toArray, List.nil_append, List.cons_append]
  refine wpIn_mono (Q := noPanic _) ?_ (noPanic_out _)
  gi_wp2_with (first
    | (refine ⟨trivial, ?_⟩; gi_at_call 15; refine (callsIn_wide.2 hln).mono ?_; rintro e w' ⟨rfl, rfl⟩))
  refine ⟨trivial, ?_⟩
  refine (callsIn_wide.2 hsl).mono ?_
  rintro e w2 ⟨rfl, hb2⟩
  rw [← HW1.out.1] at hb2
  have hb2' : Below w.heap.size w w2 := HW1.out.2.trans (hb2.mono (by omega))
  have ht2 := HH.out.below hb2'
  have hln2 := tlen ht2
  rw [hTs] at hln2
  have hed2 := tedits ht2
  have hpc2 := tpieces ht2
  have res2 : w2.heap[w.heap.size]? = some (.cells #[.bool false] 4 (0, 0)) := (hb2.block _ (by omega)).trans (by rw [HW1.out.1]; exact heap_alloc_new w _)
  have hs2 := hb2.size
  have hsn : ((s.size : Int) != (s.size : Int)) = false := bne_self_eq_false _
  have hen : ((edits : Int) != (edits : Int)) = false := bne_self_eq_false _
  have hw_1 : IntKind.i64.wrap (2 * (edits : Int)) = 2 * (edits : Int) := by rw [IntKind.wrap_i64]; omega
  have hw_2 : IntKind.i64.wrap (2 * (edits : Int) + 1) = 2 * (edits : Int) + 1 := by rw [IntKind.wrap_i64]; omega
  have hd : decide (2 * (edits : Int) + 1 < (np : Int)) = false := by simp; omega
  have he := eqfs
  have H2 := Lib.hid (And.intro hb2' (And.intro ht2 res2))
  clear hb2 hb2' ht2 res2 hsl hln
  gi_wp2_with (first
    | (refine ⟨trivial, ?_⟩; gi_at_call 15; refine (callsIn_wide.2 hln2).mono ?_; rintro e w' ⟨rfl, rfl⟩)
    | (refine ⟨trivial, ?_⟩; gi_at_call 18; refine (callsIn_wide.2 hed2).mono ?_; rintro e w' ⟨rfl, rfl⟩)
    | (refine ⟨trivial, ?_⟩; gi_at_call 17; refine (callsIn_wide.2 hpc2).mono ?_; rintro e w' ⟨rfl, rfl⟩)
    | (refine ⟨trivial, ?_⟩; gi_at_call 16; refine (callsIn_wide.2 (tall_new _ _)).mono ?_; rintro e w' ⟨rfl, rfl⟩))
  refine name_world ?_
  intro Wi hWi
  have ht2 := H2.out.2.1
  have si : Wi.heap.size = w2.heap.size + 3 := by rw [hWi]; simp
  have bi : Below w2.heap.size w2 Wi := by
    rw [hWi]
    exact (((Below.refl _ w2).alloc (Nat.le_refl _) _).alloc (by simp only [World.size_alloc]; omega) _).alloc (by simp only [World.size_alloc]; omega) _
  have hti := ht2.below bi
  have c0 : Wi.cell? ⟨w2.heap.size, 0, none⟩ = some (.pointer (some ⟨t, 0, none⟩)) := (cell_of_row Wi _ 0 _ _ _ (by rw [hWi]; simp only [heap_alloc_if, World.size_alloc]; repeat (first | rw [if_pos trivial] | rw [if_pos (by omega)] | rw [if_neg (by omega)]))).trans (by simp)
  have e1 : Wi.heap[w2.heap.size + 1]? = some (.cells #[.string (cat [])] 9 (0, 0)) := by rw [hWi]; simp only [heap_alloc_if, World.size_alloc]; rw [if_neg (by omega), if_pos trivial]; rfl
  have e2 : Wi.heap[w2.heap.size + 2]? = some (.cells #[.int .i64 ((([] : List ByteArray).length : Nat) : Int)] 3 (0, 0)) := by rw [hWi]; simp only [heap_alloc_if, World.size_alloc]; repeat (first | rw [if_pos trivial] | rw [if_pos (by omega)] | rw [if_neg (by omega)]); rfl
  have hlt : ∀ k, F k → k < w2.heap.size := fun k hk => (ht2.lt hk).2
  obtain ⟨xs, hxl, hxt, hxp, iter⟩ := hti.iter (by omega)
  have it := iter w2.heap.size (fun k => k = w2.heap.size + 1 ∨ k = w2.heap.size + 2) (fun k hk => by have := hlt k hk; omega) (by omega) (by intro k hk; omega) c0
  have H3 := Lib.hid (And.intro hti (And.intro hxt hxp))
  have hxs : (cat xs) = s := list_inj (by rw [cat_list, hxt, hs])
  have hws := H2.out.1.size
  clear hWi hti hxt hxp c0 iter ht2
  refine rangeFunc_iter (by omega) (gf := 26) (lb := #[.pointer (some ⟨w2.heap.size, 0, none⟩)]) rfl (enters_of Try.func26 (by kernel_rfl) rfl) it
    (fun h1 h2 => h1.trans h2) (frK (by omega)) (Below.refl _ _) (fun _ => rfl)
    (fun pre V => Fr (fun k => (k = w2.heap.size + 1 ∨ k = w2.heap.size + 2) ∨ Wi.heap.size ≤ k) Wi V ∧ V.heap[w2.heap.size + 1]? = some (.cells #[.string (cat pre)] 9 (0, 0)) ∧ V.heap[w2.heap.size + 2]? = some (.cells #[.int .i64 (pre.length : Int)] 3 (0, 0)))
    (fun c pre V => False) ?hI ?hIx ⟨Fr.refl _ _, e1, e2⟩ ?round ?done ?stop
  case hI =>
    refine OwnFrom.and ?_ (OwnFrom.and (own_heap (by omega) _) (own_heap (by omega) _))
    exact fun s A B row hs hg hr => Fr.grown hs hg (fun k e _ => .inr (by have := (hr k e).1; omega))
  case hIx => exact fun c s A B row hs hg hr => hs
  case stop => exact fun _ _ _ _ _ _ _ h _ => h.elim
  case round =>
    rintro l' pre x V0 ⟨rest, hpr⟩ _ hi0
    gi_wp2
    refine ⟨Keep.refl _ _ _, Fr.refl _ _, hi0, ?_⟩
    rintro V - - - hsz ⟨hB, g1, g2⟩
    clear hi0
    have hx0 : 0 < x.size := H3.out.2.2 x (by rw [hpr]; simp)
    have hxe : x.toList.isEmpty = false := by
      rw [ByteArray.toList_eq]
      cases hl : x.data.toList with
      | nil => have := size_str x; rw [hl] at this; simp at this; omega
      | cons a l => rfl
    have y1 : V.cell? ⟨w2.heap.size + 1, 0, none⟩ = some (.string (cat pre)) := (cell_of_row V _ 0 _ _ _ g1).trans (by simp)
    have y2 : V.cell? ⟨w2.heap.size + 2, 0, none⟩ = some (.int .i64 (pre.length : Int)) := (cell_of_row V _ 0 _ _ _ g2).trans (by simp)
    have z1 : V.frozen? ⟨w2.heap.size + 1, 0, none⟩ = false := frozen_of_row V _ 0 _ _ g1
    have z2 : V.frozen? ⟨w2.heap.size + 2, 0, none⟩ = false := frozen_of_row V _ 0 _ _ g2
    have hpl : pre.length < xs.length := by rw [hpr]; simp
    have hcap : ¬ (9223372036854775807 < (cat pre).size + x.size) := by
      have e1 : (cat pre).size + x.size ≤ T.length := by
        rw [← H3.out.2.1, hpr, ← size_str, ← size_str, cat_list]
        simp
      omega
    have HG := Lib.hid (And.intro hB (And.intro g1 g2))
    clear hB g1 g2 hpr hx0
    gi_wp2
    obtain ⟨hB, g1, g2⟩ := HG.out
    have f1 : Fr (fun k => (k = w2.heap.size + 1 ∨ k = w2.heap.size + 2) ∨ Wi.heap.size ≤ k) V ((V.setCell ⟨w2.heap.size + 1, 0, none⟩ (.string (cat pre ++ x))).setCell ⟨w2.heap.size + 2, 0, none⟩ (.int .i64 ((pre.length : Int) + 1))) :=
      ((Fr.refl _ V).setCell (p := ⟨w2.heap.size + 1, 0, none⟩) (fun _ => .inl (.inl rfl)) _).setCell (p := ⟨w2.heap.size + 2, 0, none⟩) (fun _ => .inl (.inr rfl)) _
    refine ⟨Keep.ofFr ((((Fr.refl (fun k => k = w2.heap.size + 1 ∨ k = w2.heap.size + 2) V).setCell (p := ⟨w2.heap.size + 1, 0, none⟩) (fun _ => .inl rfl) _).setCell (p := ⟨w2.heap.size + 2, 0, none⟩) (fun _ => .inr rfl) _)) (by omega) (by intro k hk; omega), f1, hB.trans f1, ?_, ?_⟩
    · refine (heap_setCell_other _ ⟨w2.heap.size + 2, 0, none⟩ (w2.heap.size + 1) _ (by show w2.heap.size + 1 ≠ w2.heap.size + 2; omega)).trans ?_
      rw [heap_setCell_same _ _ _ _ _ _ g1, cat_add]
      simp
    · have g2' : (V.setCell ⟨w2.heap.size + 1, 0, none⟩ (.string (cat pre ++ x))).heap[w2.heap.size + 2]? = _ := (heap_setCell_other _ ⟨w2.heap.size + 1, 0, none⟩ (w2.heap.size + 2) _ (by show w2.heap.size + 2 ≠ w2.heap.size + 1; omega)).trans g2
      rw [heap_setCell_same _ _ _ _ _ _ g2']
      simp
  case done =>
    rintro D V hD ⟨hB, g1, g2⟩ hk
    rw [hxs] at g1
    rw [hxl] at g2
    have hbV : Below w2.heap.size w2 V := bi.trans (hB.below (by omega) (by intro k hk; omega))
    have htV := H2.out.2.1.below hbV
    have hpcV := tpieces (htV.below (Below.refl _ V).drew)
    have g0 : V.heap[w.heap.size]? = some (.cells #[.bool false] 4 (0, 0)) := (hbV.block _ (by omega)).trans H2.out.2.2
    have y1 : V.cell? ⟨w2.heap.size + 1, 0, none⟩ = some (.string s) := (cell_of_row V _ 0 _ _ _ g1).trans (by simp)
    have y2 : V.cell? ⟨w2.heap.size + 2, 0, none⟩ = some (.int .i64 (np : Int)) := (cell_of_row V _ 0 _ _ _ g2).trans (by simp)
    have y0 : V.cell? ⟨w.heap.size, 0, none⟩ = some (.bool false) := (cell_of_row V _ 0 _ _ _ g0).trans (by simp)
    have z0 : V.frozen? ⟨w.heap.size, 0, none⟩ = false := frozen_of_row V _ 0 _ _ g0
    have hnn : ((np : Int) == (np : Int)) = true := beq_self_eq_true _
    have HV := Lib.hid (And.intro hbV g0)
    have HK := Lib.hid hk
    clear hB g1 g2 hbV htV g0 hk
    gi_wp2
    gi_region_with_o (refine ⟨trivial, ?_⟩; gi_at_call 17; refine (callsIn_wide.2 hpcV).mono ?_; rintro e w' ⟨rfl, rfl⟩)
    all_goals
      gi_wp2
    all_goals
      obtain ⟨X, hX⟩ : ∃ X, X = V.setCell ⟨w.heap.size, 0, none⟩ (.bool true) := ⟨_, rfl⟩
      have hDw : D ≠ w.heap.size := by omega
      have hgX : X.heap[w.heap.size]? = some (.cells #[.bool true] 4 (0, 0)) := by
        rw [hX, heap_setCell_same _ _ _ _ _ _ HV.out.2]; simp
      have hXD : X.heap[D]? = some (.deferred (some [])) := by rw [hX]; exact (heap_setCell_other V ⟨w.heap.size, 0, none⟩ D _ hDw).trans HK.out
      have hbX : Below w.heap.size w X := by rw [hX]; exact (H2.out.1.trans (HV.out.1.mono hws)).setCell (p := ⟨w.heap.size, 0, none⟩) (Nat.le_refl _) _
      have hcelld : (X.drew.putObj D (.deferred none)).cell? ⟨w.heap.size, 0, none⟩ = some (.bool true) := (cell_of_row _ _ 0 _ _ _ ((World.putObj_heap_other (fun e => hDw e.symm)).trans hgX)).trans (by simp)
      rw [← hX]
      refine ⟨by simp, .inl ⟨_, _, rfl, run_takeDeferred (w := X.drew) hXD, ?_⟩⟩
      exact ⟨.bool true, by simp [results, Try.results13, go_sem, hcelld], rfl, hbX.drew.grown (grownBy_putObj' _ D _) hbX.size (fun k e => by cases e; omega)⟩
end
end Go.Proofs.Ytiknnepmbkohiaa.Tb
