/-
  The law PieceBreaks, walked.
-/
import Derived.Test.YtiknnepmbkohiaaPLaw
import Derived.LoopIn
set_option linter.unusedVariables false
namespace Go.Proofs.Ytiknnepmbkohiaa.PBr
open Go Go.RowKit Go.Proofs.Ytiknnepmbkohiaa.Vk Go.Shelf Go.Proofs.Ytiknnepmbkohiaa.Tb
attribute [local go_sem] Oper.semAt_some

theorem long (a : Option Addr) (n c : Nat) (most : Int) (w : World) (hn : n ≤ 9223372036854775807) (h : 12 < n) :
    Calls Try.prog 8 #[.slice a n c, .int .u8 most] w fun e w' => e = .returned (.bool true) ∧ Below w.heap.size w w' := by
  go_enter Try.func8, Try.ntmps8
  go_wp2_with (go_at_call 9; refine (known_any _).mono ?_; rintro e w1 ⟨rfl, hb⟩)
  go_ret
  exact ⟨rfl, hb⟩

set_option maxHeartbeats 4000000 in
set_option maxRecDepth 100000 in
theorem short (a : Option Addr) (n c : Nat) (ls : List ByteArray) (most : Int) (w : World) (hs : SrcV w 1 (.slice a n c) n (ls.map .string)) (hn : n ≤ 12) (hm : 0 ≤ most ∧ most ≤ 255) :
    Calls Try.prog 8 #[.slice a n c, .int .u8 most] w fun e w' => e = .returned (.bool true) ∧ Below w.heap.size w w' := by
  have hd : decide (12 < (n : Int)) = false := by simp; omega
  have he := eqfs
  have hmx : Try.prog.follows .mixedOrders = true := by kernel_rfl
  refine (callsIn_wide (n := 9)).1 ?_
  refine callsIn_of_wp_marks Try.func8 rfl trivial ?_ rfl
  simp only [Try.ntmps8, List.size_toArray, List.length_cons, List.length_nil, Nat.reduceAdd, Nat.reduceSub, Array.replicate_succ, Array.replicate_zero, List.push_toArray, List.append_toArray, List.nil_append, List.cons_append]
  refine wpIn_mono (Q := noPanic _) ?_ (noPanic_out _)
  gi_wp2_with (refine ⟨trivial, ?_⟩; gi_at_call 9; refine (callsIn_wide.2 (known_any _)).mono ?_; rintro e w1 ⟨rfl, hb1⟩)
  refine ⟨trivial, ?_⟩
  refine (callsIn_wide.2 (new_ok ⟨#[97, 98]⟩ 2000 w1 (by decide) (by decide) (by omega))).mono ?_
  rintro e w2 ⟨t, F, np, rfl, ht, hb2⟩
  have hR0 : TRel w t (ByteArray.mk #[97, 98]).data.toList 2000 0 (2 + 41 * 0) w2 := ⟨hb1.trans (hb2.mono hb1.size), F, np, (ht.base_mono hb1.size).more (by decide)⟩
  have HR0 := Lib.hid hR0
  clear ht hb1 hb2 hR0
  gi_wp2_with fail
  gi_loopw [7] (fun u7 wr => ∃ (j e : Nat) (T : List UInt8), j ≤ n ∧ u7 = .int .i64 j ∧ 1 ≤ T.length ∧ T.length ≤ 2 + 40 * j ∧ e ≤ j ∧ Hid (TRel w t T 2000 e (2 + 41 * j) wr)) (fun u7 _ => n - (RowKit.intOf u7).toNat)
  case atStart => exact ⟨0, 0, _, Nat.zero_le _, rfl, by decide, by decide, Nat.le_refl _, HR0⟩
  case round =>
    obtain ⟨j, e, T, hj, rfl, hT1, hT2, he, hR⟩ := hrel
    by_cases hjn : j < n
    · obtain ⟨hb, F', np', ht⟩ := hR.out
      have hll : ls.length = n := by have := hs.1; simpa using this
      obtain ⟨x, hx⟩ : ∃ x, (ls.map Value.string)[j]? = some (.string x) := ⟨ls[j]'(by omega), by rw [List.getElem?_map, List.getElem?_eq_getElem (by omega)]; rfl⟩
      obtain ⟨b, o, rfl, hcx, hnc, -⟩ := hs.at hx
      have hblk : b < w.heap.size := World.block_lt_of_cell? w _ hcx
      have hc1 : wr.cell? ⟨b, o + j, none⟩ = some (.string x) := (hb.cell (p := ⟨b, o + j, none⟩) hblk).trans hcx
      have hd3 : decide ((j : Int) < n) = true := by simp; omega
      by_cases hbig : 40 < x.size
      · have hd4 : decide (40 < (x.size : Int)) = true := by simp; omega
        have HB := Lib.hid hb
        clear hb ht hx hR
        gi_wp2
        exact ⟨_, results_tmp rfl _ _ _, rfl, HB.out⟩
      · have hd4 : decide (40 < (x.size : Int)) = false := by simp; omega
        have hw_3 : IntKind.i64.wrap ((j : Int) + 1) = (j : Int) + 1 := by rw [IntKind.wrap_i64]; omega
        have hins := insert_ok ht 1 x (by omega) (by omega) (by omega) (by omega)
        have HT := Lib.hid (And.intro hb ht)
        clear hb ht hx
        gi_wp2_with fail
        refine ⟨trivial, ?_⟩
        refine (callsIn_wide.2 hins).mono ?_
        rintro e3 w3 ⟨rfl, hc3⟩
        have hR3 := TRel.change HT.out.1 HT.out.2 hc3
        have hnz : nz x.size ≤ 1 := by rw [nz]; split <;> omega
        have HR3 := Lib.hid (hR3.more (u' := 2 + 41 * (j + 1)) (by omega))
        clear hc3 hins hR3
        gi_wp2
        refine ⟨⟨j + 1, e + nz x.size, _, by omega, by go_num, by simp; omega, by have := size_str x; simp; omega, by omega, HR3⟩, ?_⟩
        simp [RowKit.intOf]; omega
    · obtain rfl : j = n := by omega
      have hd3 : decide ((j : Int) < j) = false := by simp
      gi_wp2_with (first
        | (refine ⟨trivial, ?_⟩; gi_at_call 16; refine (callsIn_wide.2 (tall_new _ _)).mono ?_; rintro e w' ⟨rfl, rfl⟩))
      obtain ⟨m, hmm⟩ : ∃ m : Nat, (m : Int) = most % 6 + 1 := ⟨(most % 6 + 1).toNat, by omega⟩
      have hm0 : 0 < m := by omega
      have hm6 : m ≤ 6 := by omega
      have hm' : most % 6 + 1 = (m : Int) := hmm.symm
      rw [hm']
      clear hmm hm'
      refine name_world ?_
      intro Wi hWi
      obtain ⟨hbr, F', np', ht⟩ := hR.out
      have si : Wi.heap.size = wr.heap.size + 3 := by rw [hWi]; simp
      have bi : Below wr.heap.size wr Wi := by
        rw [hWi]
        exact (((Below.refl _ wr).alloc (Nat.le_refl _) _).alloc (by simp only [World.size_alloc]; omega) _).alloc (by simp only [World.size_alloc]; omega) _
      have hti := ht.below bi
      have c0 : Wi.cell? ⟨wr.heap.size, 0, none⟩ = some (.pointer (some ⟨t, 0, none⟩)) := (cell_of_row Wi _ 0 _ _ _ (by rw [hWi]; simp only [heap_alloc_if, World.size_alloc]; repeat (first | rw [if_pos trivial] | rw [if_pos (by omega)] | rw [if_neg (by omega)]))).trans (by simp)
      have e1 : Wi.heap[wr.heap.size + 1]? = some (.cells #[.int .i64 m] 3 (0, 0)) := by rw [hWi]; simp only [heap_alloc_if, World.size_alloc]; rw [if_neg (by omega), if_pos trivial]
      have e2 : Wi.heap[wr.heap.size + 2]? = some (.cells #[.int .i64 ((([] : List ByteArray).length : Nat) : Int)] 3 (0, 0)) := by rw [hWi]; simp only [heap_alloc_if, World.size_alloc]; repeat (first | rw [if_pos trivial] | rw [if_pos (by omega)] | rw [if_neg (by omega)]); rfl
      have hlt : ∀ k, F' k → k < wr.heap.size := fun k hk => (ht.lt hk).2
      have hfac := ht.facts
      obtain ⟨xs, hxl, hxt, hxp, iter⟩ := hti.iter (by omega)
      have it := iter wr.heap.size (fun k => k = wr.heap.size + 2) (fun k hk => by have := hlt k hk; omega) (by omega) (by intro k hk; omega) c0
      have hws := hbr.size
      have HT := Lib.hid (And.intro hbr hti)
      clear hWi hti hxt hxp c0 iter ht hbr hR
      refine rangeFunc_iter (by omega) (gf := 26) (lb := #[.pointer (some ⟨wr.heap.size, 0, none⟩)]) rfl (enters_of Try.func26 (by kernel_rfl) rfl) it
        (fun h1 h2 => h1.trans h2) (frK (by omega)) (Below.refl _ _) (fun _ => rfl)
        (fun pre V => Fr (fun k => k = wr.heap.size + 2 ∨ Wi.heap.size ≤ k) Wi V ∧ V.heap[wr.heap.size + 2]? = some (.cells #[.int .i64 (pre.length : Int)] 3 (0, 0)) ∧ pre.length < m)
        (fun c pre V => c = .exit 2 ∧ Fr (fun k => k = wr.heap.size + 2 ∨ Wi.heap.size ≤ k) Wi V ∧ V.heap[wr.heap.size + 2]? = some (.cells #[.int .i64 (pre.length : Int)] 3 (0, 0)) ∧ pre.length = m) ?hI ?hIx ⟨Fr.refl _ _, e2, hm0⟩ ?round ?done ?stop
      case hI =>
        refine OwnFrom.and ?_ (OwnFrom.and (own_heap (by omega) _) (ownFrom_pure _ _))
        exact fun s A B row hs hg hr => Fr.grown hs hg (fun k e _ => .inr (by have := (hr k e).1; omega))
      case hIx =>
        exact fun c s A B row hs hg hr => ⟨hs.1, Fr.grown hs.2.1 hg (fun k e _ => .inr (by have := (hr k e).1; omega)), own_heap (α := ByteArray) (by omega) (fun pre => .cells #[.int .i64 (pre.length : Int)] 3 (0, 0)) s A B row hs.2.2.1 hg hr, hs.2.2.2⟩
      case round =>
        rintro l' pre x V0 ⟨rest, hpr⟩ _ hi0
        gi_wp2
        refine ⟨Keep.refl _ _ _, Fr.refl _ _, hi0, ?_⟩
        rintro V - - - hsz ⟨hB, g2, hlt2⟩
        clear hi0
        have g1 : V.heap[wr.heap.size + 1]? = some (.cells #[.int .i64 m] 3 (0, 0)) := (hB.block _ (by omega) (by omega)).trans e1
        have y1 : V.cell? ⟨wr.heap.size + 1, 0, none⟩ = some (.int .i64 m) := (cell_of_row V _ 0 _ _ _ g1).trans (by simp)
        have y2 : V.cell? ⟨wr.heap.size + 2, 0, none⟩ = some (.int .i64 (pre.length : Int)) := (cell_of_row V _ 0 _ _ _ g2).trans (by simp)
        have z2 : V.frozen? ⟨wr.heap.size + 2, 0, none⟩ = false := frozen_of_row V _ 0 _ _ g2
        have f1 : Fr (fun k => k = wr.heap.size + 2 ∨ Wi.heap.size ≤ k) V (V.setCell ⟨wr.heap.size + 2, 0, none⟩ (.int .i64 ((pre.length : Int) + 1))) := (Fr.refl _ V).setCell (p := ⟨wr.heap.size + 2, 0, none⟩) (fun _ => .inl rfl) _
        have fin : (V.setCell ⟨wr.heap.size + 2, 0, none⟩ (.int .i64 ((pre.length : Int) + 1))).heap[wr.heap.size + 2]? = some (.cells #[.int .i64 (((pre ++ [x]).length : Nat) : Int)] 3 (0, 0)) := by
          refine (heap_setCell_same V (wr.heap.size + 2) 0 _ _ (.int .i64 ((pre.length : Int) + 1)) g2).trans ?_
          rw [List.length_append, List.length_singleton]
          simp
        have hkp : Keep Wi.heap.size (Wi.heap.size + 2 + 9) V (V.setCell ⟨wr.heap.size + 2, 0, none⟩ (.int .i64 ((pre.length : Int) + 1))) := (Keep.refl _ _ _).setCell (.inl (by show wr.heap.size + 2 < _; omega)) _
        have FIN := Lib.hid (And.intro hkp (And.intro f1 (And.intro (hB.trans f1) fin)))
        clear g1 g2 hB hpr f1 fin hkp
        by_cases hlast : pre.length + 1 < m
        · gi_wp2
          exact ⟨FIN.out.1, FIN.out.2.1, FIN.out.2.2.1, FIN.out.2.2.2, by simp; omega⟩
        · gi_wp2
          exact ⟨FIN.out.1, rfl, FIN.out.2.2.1, FIN.out.2.2.2, by simp; omega⟩
      case done =>
        rintro D V hD ⟨hB, g2, hlt2⟩ hk
        rw [hxl] at g2 hlt2
        obtain ⟨g, hg⟩ : ∃ g, g = np' := ⟨_, rfl⟩
        rw [← hg] at g2
        have hgm : min (m : Int) (np' : Int) = (g : Int) := by omega
        have hbV : Below wr.heap.size wr V := bi.trans (hB.below (by omega) (by intro k hk; omega))
        have hbw : Below w.heap.size w V := HT.out.1.trans (hbV.mono hws)
        have htV := HT.out.2.fr hB (fun k hk => by have := hlt k hk; omega)
        have g1 : V.heap[wr.heap.size + 1]? = some (.cells #[.int .i64 m] 3 (0, 0)) := (hB.block _ (by omega) (by omega)).trans e1
        obtain ⟨s, hsT⟩ : ∃ s : ByteArray, s.data.toList = T := ⟨⟨T.toArray⟩, rfl⟩
        have hslV := tslice htV 0 T.length (by omega) (by omega) (by omega)
        rw [List.drop_zero, List.take_length, ← hsT] at hslV
        have hsS : (ByteArray.mk s.data.toList.toArray) = s := rfl
        rw [hsS] at hslV
        have hlnV := tlen htV
        have hTs : (T.length : Int) = (s.size : Int) := by rw [← hsT, size_str]
        rw [hTs] at hlnV
        rw [size_str] at hslV
        have hVD : D < V.heap.size := (Array.getElem?_eq_some_iff.1 hk).1
        have hsV := hB.size
        have HV := Lib.hid (And.intro hbw (And.intro htV (And.intro g1 (And.intro g2 hk))))
        clear hB g1 g2 hbV hbw htV hk hsS
        gi_wp2_with (refine ⟨trivial, ?_⟩; gi_at_call 15; refine (callsIn_wide.2 hlnV).mono ?_; rintro e w' ⟨rfl, rfl⟩)
        refine ⟨trivial, ?_⟩
        refine (callsIn_wide.2 hslV).mono ?_
        rintro e5 V5 ⟨rfl, hb5⟩
        obtain ⟨hbw, htV, g1, g2, hk⟩ := HV.out
        have hs5 := hb5.size
        have y1 : V5.cell? ⟨wr.heap.size + 1, 0, none⟩ = some (.int .i64 m) := (cell_of_row V5 _ 0 _ _ _ ((hb5.block _ (by omega)).trans g1)).trans (by simp)
        have y2 : V5.cell? ⟨wr.heap.size + 2, 0, none⟩ = some (.int .i64 (g : Int)) := (cell_of_row V5 _ 0 _ _ _ ((hb5.block _ (by omega)).trans g2)).trans (by simp)
        have ht5 := (htV.below hb5).below (Below.refl _ V5).drew
        have hk5 : V5.heap[D]? = some (.deferred (some [])) := (hb5.block _ hVD).trans hk
        have hb5w : Below w.heap.size w V5 := hbw.trans (hb5.mono hbw.size)
        have hpc5 := (tpieces ht5).mono fun e w' (h : e = _ ∧ V5.drew = w') => (⟨h.1, h.2.symm⟩ : e = _ ∧ w' = V5.drew)
        have hed5 := (tedits ht5).mono fun e w' (h : e = _ ∧ V5.drew = w') => (⟨h.1, h.2.symm⟩ : e = _ ∧ w' = V5.drew)
        have hwh5 := whole_any ht5 s hsT (by omega) (by omega)
        have hgg : ((g : Int) == (g : Int)) = true := beq_self_eq_true _
        have HK := Lib.hid (And.intro hk5 hb5w)
        clear hbw htV g1 g2 hk ht5 hk5 hb5w hslV hlnV hb5
        gi_wp2
        refine wpIn_wide.2 ?_
        refine wp_still_tail 15 hmx (by kernel_rfl) ?_
        simp only [List.take_succ_cons, List.take_zero, List.drop_succ_cons, List.drop_zero]
        repeat (first | still_step | still_call hpc5 | still_call hed5)
        refine wpStill_nil ?_
        go_wp2_with fail
        refine hwh5.mono ?_
        rintro e6 w6 ⟨rfl, hb6⟩
        have hb6' : Below V5.heap.size V5 w6 := ⟨hb6.os, hb6.tape, hb6.output, hb6.size, hb6.block⟩
        have hbw6 : Below w.heap.size w w6 := HK.out.2.trans (hb6'.mono HK.out.2.size)
        have hk6 : w6.heap[D]? = some (.deferred (some [])) := (hb6'.block _ (by omega)).trans HK.out.1
        have HF := Lib.hid (And.intro hbw6 hk6)
        clear hb6 hb6' hbw6 hk6 hwh5 hpc5 hed5
        go_wp2
        gi_wp2
        refine ⟨by simp, .inl ⟨_, _, rfl, run_takeDeferred HF.out.2, ?_⟩⟩
        exact ⟨_, results_tmp rfl _ _ _, rfl, HF.out.1.grown (grownBy_putObj' _ D _) HF.out.1.size (fun k e => by cases e; omega)⟩
      case stop =>
        rintro D c pre V hD hpre hne ⟨rfl, hB, g2, hlt2⟩ hk
        have hpl := hpre.length_le
        rw [hxl, hlt2] at hpl
        rw [hlt2] at g2
        obtain ⟨g, hg⟩ : ∃ g, g = m := ⟨_, rfl⟩
        rw [← hg] at g2
        have hgm : min (m : Int) (np' : Int) = (g : Int) := by omega
        have hbV : Below wr.heap.size wr V := bi.trans (hB.below (by omega) (by intro k hk; omega))
        have hbw : Below w.heap.size w V := HT.out.1.trans (hbV.mono hws)
        have htV := HT.out.2.fr hB (fun k hk => by have := hlt k hk; omega)
        have g1 : V.heap[wr.heap.size + 1]? = some (.cells #[.int .i64 m] 3 (0, 0)) := (hB.block _ (by omega) (by omega)).trans e1
        obtain ⟨s, hsT⟩ : ∃ s : ByteArray, s.data.toList = T := ⟨⟨T.toArray⟩, rfl⟩
        have hslV := tslice htV 0 T.length (by omega) (by omega) (by omega)
        rw [List.drop_zero, List.take_length, ← hsT] at hslV
        have hsS : (ByteArray.mk s.data.toList.toArray) = s := rfl
        rw [hsS] at hslV
        have hlnV := tlen htV
        have hTs : (T.length : Int) = (s.size : Int) := by rw [← hsT, size_str]
        rw [hTs] at hlnV
        rw [size_str] at hslV
        have hVD : D < V.heap.size := (Array.getElem?_eq_some_iff.1 hk).1
        have hsV := hB.size
        have HV := Lib.hid (And.intro hbw (And.intro htV (And.intro g1 (And.intro g2 hk))))
        clear hB g1 g2 hbV hbw htV hk hsS
        gi_wp2_with (refine ⟨trivial, ?_⟩; gi_at_call 15; refine (callsIn_wide.2 hlnV).mono ?_; rintro e w' ⟨rfl, rfl⟩)
        refine ⟨trivial, ?_⟩
        refine (callsIn_wide.2 hslV).mono ?_
        rintro e5 V5 ⟨rfl, hb5⟩
        obtain ⟨hbw, htV, g1, g2, hk⟩ := HV.out
        have hs5 := hb5.size
        have y1 : V5.cell? ⟨wr.heap.size + 1, 0, none⟩ = some (.int .i64 m) := (cell_of_row V5 _ 0 _ _ _ ((hb5.block _ (by omega)).trans g1)).trans (by simp)
        have y2 : V5.cell? ⟨wr.heap.size + 2, 0, none⟩ = some (.int .i64 (g : Int)) := (cell_of_row V5 _ 0 _ _ _ ((hb5.block _ (by omega)).trans g2)).trans (by simp)
        have ht5 := (htV.below hb5).below (Below.refl _ V5).drew
        have hk5 : V5.heap[D]? = some (.deferred (some [])) := (hb5.block _ hVD).trans hk
        have hb5w : Below w.heap.size w V5 := hbw.trans (hb5.mono hbw.size)
        have hpc5 := (tpieces ht5).mono fun e w' (h : e = _ ∧ V5.drew = w') => (⟨h.1, h.2.symm⟩ : e = _ ∧ w' = V5.drew)
        have hed5 := (tedits ht5).mono fun e w' (h : e = _ ∧ V5.drew = w') => (⟨h.1, h.2.symm⟩ : e = _ ∧ w' = V5.drew)
        have hwh5 := whole_any ht5 s hsT (by omega) (by omega)
        have hgg : ((g : Int) == (g : Int)) = true := beq_self_eq_true _
        have HK := Lib.hid (And.intro hk5 hb5w)
        clear hbw htV g1 g2 hk ht5 hk5 hb5w hslV hlnV hb5
        gi_wp2
        refine wpIn_wide.2 ?_
        refine wp_still_tail 15 hmx (by kernel_rfl) ?_
        simp only [List.take_succ_cons, List.take_zero, List.drop_succ_cons, List.drop_zero]
        repeat (first | still_step | still_call hpc5 | still_call hed5)
        refine wpStill_nil ?_
        go_wp2_with fail
        refine hwh5.mono ?_
        rintro e6 w6 ⟨rfl, hb6⟩
        have hb6' : Below V5.heap.size V5 w6 := ⟨hb6.os, hb6.tape, hb6.output, hb6.size, hb6.block⟩
        have hbw6 : Below w.heap.size w w6 := HK.out.2.trans (hb6'.mono HK.out.2.size)
        have hk6 : w6.heap[D]? = some (.deferred (some [])) := (hb6'.block _ (by omega)).trans HK.out.1
        have HF := Lib.hid (And.intro hbw6 hk6)
        clear hb6 hb6' hbw6 hk6 hwh5 hpc5 hed5
        go_wp2
        gi_wp2
        refine ⟨by simp, .inl ⟨_, _, rfl, run_takeDeferred HF.out.2, ?_⟩⟩
        exact ⟨_, results_tmp rfl _ _ _, rfl, HF.out.1.grown (grownBy_putObj' _ D _) HF.out.1.size (fun k e => by cases e; omega)⟩

theorem walk (a : Option Addr) (n c : Nat) (ls : List ByteArray) (most : Int) (w : World) (hs : SrcV w 1 (.slice a n c) n (ls.map .string)) (ho : (Lit.int .u8 most).wf = true) :
    Calls Try.prog 8 #[.slice a n c, .int .u8 most] w fun e w' => e = .returned (.bool true) ∧ Below w.heap.size w w' := by
  by_cases h : 12 < n
  · exact long a n c most w (by have := hs.2.2.1; unfold maxLen at this; omega) h
  · exact short a n c ls most w hs (by omega) (by simpa [Lit.wf, IntKind.min, IntKind.max, IntKind.signed, IntKind.bits] using ho)
end Go.Proofs.Ytiknnepmbkohiaa.PBr
