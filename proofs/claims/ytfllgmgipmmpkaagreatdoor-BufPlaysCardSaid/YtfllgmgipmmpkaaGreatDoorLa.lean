/-
  Indexes of lines: add, over whatever iterator that keeps its contract.
-/
import Derived.Test.YtfllgmgipmmpkaaGreatDoorLc
set_option linter.unusedVariables false
set_option linter.unusedSimpArgs false
set_option maxRecDepth 100000
namespace Go.Proofs.YtfllgmgipmmpkaaGreatDoor.Lx
open Go Go.RowKit Go.Proofs.YtfllgmgipmmpkaaGreatDoor.Vk Go.Proofs.YtfllgmgipmmpkaaGreatDoor.Lm Go.Shelf
open VecI (E)
attribute [local go_sem] Oper.semAt_some

variable {w w' : World} {base p q : Nat} {r : Option Nat} {zs : List Int} {size : Int}

/-- Blocks that are no cells are no part of an index. -/
theorem Ix.own {row : Option Nat} (h : Ix w base p q r zs size) (hg : w.grownBy w' row) (hr : ∀ k, row = some k → ∃ o : Obj, w.heap[k]? = some o ∧ o.isCells = false) : Ix w' base p q r zs size := by
  refine h.fr (S := fun k => row = some k) ((Fr.refl _ w).grown hg (fun k hk _ => hk)) (fun k hk hrow => ?_)
  obtain ⟨o, ho, hc⟩ := hr k hrow
  rcases hk with rfl | rfl | hk
  · rw [h.head] at ho; cases ho; cases hc
  · obtain ⟨b, c, h1, -⟩ := h.vec
    rw [h1] at ho; cases ho; cases hc
  · obtain ⟨b, c, h1, h2, h3, h4, h5⟩ := h.vec
    rcases h3.2 with ⟨hv, _⟩ | ⟨g, cap, cur, hv, _, hg, _⟩
    · rw [hv] at h4; rw [hk] at h4; cases h4
    · rw [hv] at h4; rw [hk] at h4
      simp only [Value.ownBlock, Option.some.injEq] at h4
      subst h4
      rw [hg] at ho; cases ho; cases hc

/-- One number put at the end. -/
theorem vpush (h : Ix w base p q r zs size) (z : Int) (n : Int) (hnz : n = zs.length) (hn : zs.length ≤ 900000) :
    Calls Tryz.prog 89 #[.pointer (some ⟨q, 0, none⟩), .int .i64 n, .slice (some ⟨w.heap.size, 0, none⟩) 1 1] ((w.alloc (.cells #[.int .i64 z] 3)).drew) fun e w' => e = .returned (.bool true) ∧
      ∃ r', Ix w' base p q r' (zs ++ [z]) size ∧ Fr (fun b => b = q ∨ r = some b) w w' ∧ (r' = r ∨ ∃ g, r' = some g ∧ w.heap.size ≤ g) := by
  subst hnz
  have hfr : Fr (fun _ => False) w ((w.alloc (.cells #[.int .i64 z] 3)).drew) := ((Fr.refl _ w).alloc _).drew
  have hx := h.fr hfr (by simp)
  refine (VecI.insert_in base q r zs.length (iv zs) zs.length _ 1 [.int .i64 z] _ hx.vec (iv_one zs) (SrcV.lit w #[.int .i64 z] _ 1 rfl (by simp [Value.oneCell']) (by simp [maxLen])).drew ?_ (by omega) (by omega) (by omega)).mono ?_
  · intro _ j hj e
    have := (h.vec.rowLt j e).2
    simp only [blk, Option.some.injEq] at hj
    have h2 : w.heap.size = j := hj
    omega
  · rintro e w' ⟨he, r', hv, hf, hr⟩
    have hsz := hfr.size
    refine ⟨he, r', ?_, (hfr.mono (fun _ _ h => h.elim)).trans hf, ?_⟩
    · refine hx.turn hf ?_ hr
      have e1 : (iv zs).take zs.length ++ [Value.int .i64 z] ++ (iv zs).drop zs.length = iv (zs ++ [z]) := by
        rw [List.take_of_length_le (by simp [iv]), List.drop_of_length_le (by simp [iv])]; simp [iv]
      rw [e1] at hv
      simpa using hv
    · rcases hr with h | ⟨g, h, hg⟩
      · exact .inl h
      · exact .inr ⟨g, h, by omega⟩

set_option maxHeartbeats 2000000 in
theorem add_any (h : Ix w base p q r zs size) (gf : Nat) (lb : Array Value) (eg : ∀ args w, (callFunc gf args).run Tryz.prog w = .ok (.enter gf args) w) (K : Nat → Prop) (xs : List Int) (hit : Iter Tryz.prog gf lb enc1 0 (Kept K) xs w)
    (hK : ∀ k, K k → k < w.heap.size ∧ k ≠ q ∧ r ≠ some k) (by_ : Int) (hx : ∀ x ∈ xs, -9223372036854775808 ≤ x + by_ ∧ x + by_ ≤ 9223372036854775807) (hn : zs.length + xs.length ≤ 900000) :
    Calls Tryz.prog 72 #[.pointer (some ⟨p, 0, none⟩), .func (.func gf) #[] lb, .int .i64 by_] w fun e w' => (∃ v, e = .returned v) ∧
      ∃ r', Ix w' base p q r' (zs ++ xs.map (· + by_)) size ∧ Fr (fun b => b = q ∨ r = some b) w w' ∧ (r' = r ∨ ∃ g, r' = some g ∧ w.heap.size ≤ g) := by
  have hmx : Tryz.prog.follows .mixedOrders = true := by kernel_rfl
  obtain ⟨W, hW⟩ : ∃ W, W = (w.alloc (.cells #[.pointer (some ⟨p, 0, none⟩)] 59)).alloc (.cells #[.int .i64 by_] 3) := ⟨_, rfl⟩
  have hbW : Below w.heap.size w W := by rw [hW]; exact ((Below.refl _ w).alloc (Nat.le_refl _) _).alloc (by simp) _
  have hsz : W.heap.size = w.heap.size + 2 := by rw [hW]; simp
  have cx : W.heap[w.heap.size]? = some (.cells #[.pointer (some ⟨p, 0, none⟩)] 59 (0, 0)) := by rw [hW]; exact (Below.heap_alloc (w.alloc _) _ _ (by simp)).trans (heap_alloc_new w _)
  have cb : W.heap[w.heap.size + 1]? = some (.cells #[.int .i64 by_] 3 (0, 0)) := by
    rw [hW]
    have := heap_alloc_new (w.alloc (.cells #[.pointer (some ⟨p, 0, none⟩)] 59)) (.cells #[.int .i64 by_] 3)
    simpa using this
  have hIx := h.below hbW
  have hitW := hit.later hbW
  have hfoot := h.footLt
  have HH := Lib.hid h
  clear hit h
  refine (callsIn_wide (n := 9)).1 ?_
  refine callsIn_of_wp_marks Tryz.func72 rfl trivial ?_ rfl
  simp only [Tryz.ntmps72, List.size_toArray, List.length_cons, List.length_nil, Nat.reduceAdd, Nat.reduceSub, Array.replicate_succ, Array.replicate_zero, List.push_toArray, List.append_toArray, List.nil_append, List.cons_append]
  refine wpIn_mono (Q := noPanic _) ?_ (noPanic_out _)
  gi_wp2
  refine name_world ?_
  intro Wi hWi
  replace hWi : Wi = W := hWi.trans hW.symm
  subst hWi
  have HBW := Lib.hid hbW
  have HIX := Lib.hid hIx
  clear hbW hIx hW
  refine rangeFunc_iter (by omega) (gf := gf) (lb := lb) rfl eg hitW (fun h1 h2 k hk => (h2 k hk).trans (h1 k hk)) (fun V lx o o' hlx _ _ _ k hk => World.putObj_heap_other (by have := (hK k hk).1; omega)) (Below.refl _ _) (fun _ => rfl)
    (fun pre V => ∃ r', Ix V base p q r' (zs ++ pre.map (· + by_)) size ∧ Fr (fun b => b = q ∨ r = some b) Wi V ∧ (r' = r ∨ ∃ g, r' = some g ∧ Wi.heap.size + 2 ≤ g))
    (fun c pre V => False) ?hI ?hIx ⟨r, by simpa using HIX.out, Fr.refl _ _, .inl rfl⟩ ?round ?done ?stop
  case hI =>
    rintro pre A B row ⟨r', hx, hf, hr⟩ hg hrow
    exact ⟨r', hx.own hg (fun k hk => (hrow k hk).2), hf.grown hg (fun k hk hlt => by have := (hrow k hk).1; omega), hr⟩
  case hIx => exact fun c s A B row hs => hs.elim
  case round =>
    rintro l' pre x V0 ⟨rest, hpr⟩ hsz0 hi0
    dsimp only [enc1]
    gi_wp2
    refine ⟨Keep.refl _ _ _, fun _ _ => rfl, hi0, ?_⟩
    rintro V - - - hszV ⟨r', hxV, hfV, hr⟩
    clear hi0
    have hlp : pre.length < xs.length := by rw [hpr]; simp
    have hxx := hx x (by rw [hpr]; simp)
    have hfoot' : ∀ k, k < w.heap.size + 2 → K k ∨ k = w.heap.size ∨ k = w.heap.size + 1 ∨ k = p → ¬ (k = q ∨ r' = some k) := fun k hk hk2 e => by
      have hnr : ∀ g, r' = some g → Wi.heap.size + 2 ≤ g ∨ r = some g := fun g hg => by
        rcases hr with h | ⟨g', h, hg'⟩
        · exact .inr (h ▸ hg)
        · rw [h] at hg; injection hg with hg; exact .inl (hg ▸ hg')
      rcases hk2 with hk2 | hk2 | hk2 | hk2
      · rcases e with e | e
        · exact (hK k hk2).2.1 e
        · rcases hnr k e with h | h
          · omega
          · exact (hK k hk2).2.2 h
      · rcases e with e | e
        · have := (hfoot q (.inr (.inl rfl))).2; omega
        · rcases hnr k e with h | h
          · omega
          · have := (hfoot k (.inr (.inr h))).2; omega
      · rcases e with e | e
        · have := (hfoot q (.inr (.inl rfl))).2; omega
        · rcases hnr k e with h | h
          · omega
          · have := (hfoot k (.inr (.inr h))).2; omega
      · subst hk2
        rcases e with e | e
        · exact hxV.qp e.symm
        · exact hxV.rp e
    have hxl : V.heap[w.heap.size]? = some (.cells #[.pointer (some ⟨p, 0, none⟩)] 59 (0, 0)) := (hfV.block _ (by omega) (fun e => by
      rcases e with e | e
      · have := (hfoot q (.inr (.inl rfl))).2; omega
      · have := (hfoot _ (.inr (.inr e))).2; omega)).trans cx
    have hbl : V.heap[w.heap.size + 1]? = some (.cells #[.int .i64 by_] 3 (0, 0)) := (hfV.block _ (by omega) (fun e => by
      rcases e with e | e
      · have := (hfoot q (.inr (.inl rfl))).2; omega
      · have := (hfoot _ (.inr (.inr e))).2; omega)).trans cb
    have x0 : V.cell? ⟨w.heap.size, 0, none⟩ = some (.pointer (some ⟨p, 0, none⟩)) := (cell_of_row V _ 0 _ _ _ hxl).trans (by simp)
    have b0 : V.cell? ⟨w.heap.size + 1, 0, none⟩ = some (.int .i64 by_) := (cell_of_row V _ 0 _ _ _ hbl).trans (by simp)
    obtain ⟨k0, -⟩ := hxV.cells
    obtain ⟨ys, hys⟩ : ∃ ys, ys = zs ++ pre.map (· + by_) := ⟨_, rfl⟩
    rw [← hys] at hxV
    have hyl : ys.length ≤ 900000 := by rw [hys]; simp; omega
    obtain ⟨n, hn'⟩ : ∃ n : Int, n = ys.length := ⟨_, rfl⟩
    have hpush := vpush hxV (x + by_) n hn' hyl
    have hln : ∀ U, Fr (fun _ => False) V U → Calls Tryz.prog 40 #[.pointer (some ⟨p, 0, none⟩)] U fun e w' => e = .returned (.int .i64 n) ∧ U = w' := fun U hU => by rw [hn']; exact lines_any (hxV.fr hU (by simp))
    have hww : IntKind.i64.wrap (x + by_) = x + by_ := by rw [IntKind.wrap_i64]; omega
    have hfin : ∀ V6 r6, Ix V6 base p q r6 (ys ++ [x + by_]) size → Fr (fun b => b = q ∨ r' = some b) V V6 → (r6 = r' ∨ ∃ g, r6 = some g ∧ V.heap.size ≤ g) →
        Keep Wi.heap.size (Wi.heap.size + 2 + 0) V V6 ∧ Kept K V V6 ∧ ∃ r', Ix V6 base p q r' (zs ++ (pre ++ [x]).map (· + by_)) size ∧ Fr (fun b => b = q ∨ r = some b) Wi V6 ∧ (r' = r ∨ ∃ g, r' = some g ∧ Wi.heap.size + 2 ≤ g) := fun V6 r6 hx6 hf6 hr6 => by
      have hql := (hfoot q (.inr (.inl rfl))).2
      refine ⟨Keep.ofFr hf6 hszV (fun k hk => ?_), fun k hk => hf6.block k (by have := (hK k hk).1; omega) (hfoot' k (by have := (hK k hk).1; omega) (.inl hk)), r6, ?_, ?_, ?_⟩
      · rcases hk with hk | hk
        · omega
        · rcases hr with h | ⟨g, h, hg⟩
          · have := (hfoot k (.inr (.inr (h ▸ hk)))).2; omega
          · rw [h] at hk; injection hk with hk; omega
      · rw [List.map_append, ← List.append_assoc, ← hys]; exact hx6
      · refine hfV.trans' hf6 (fun k hk hk2 => ?_)
        rcases hk2 with hk2 | hk2
        · exact .inl hk2
        · rcases hr with h | ⟨g, h, hg⟩
          · exact .inr (h ▸ hk2)
          · rw [h] at hk2; injection hk2 with hk2; omega
      · rcases hr6 with h6 | ⟨g, h6, hg⟩
        · rw [h6]; exact hr
        · exact .inr ⟨g, h6, by omega⟩
    have HFIN := Lib.hid hfin
    obtain ⟨S, hSd⟩ : ∃ S : World → Prop, S = fun w' => w'.cell? ⟨w.heap.size, 0, none⟩ = some (.pointer (some ⟨p, 0, none⟩)) ∧ w'.cell? ⟨w.heap.size + 1, 0, none⟩ = some (.int .i64 by_) ∧ w'.cell? ⟨p, 0, none⟩ = some (.pointer (some ⟨q, 0, none⟩)) := ⟨_, rfl⟩
    have hSi : ∀ w', S w' → w'.cell? ⟨w.heap.size, 0, none⟩ = some (.pointer (some ⟨p, 0, none⟩)) ∧ w'.cell? ⟨w.heap.size + 1, 0, none⟩ = some (.int .i64 by_) ∧ w'.cell? ⟨p, 0, none⟩ = some (.pointer (some ⟨q, 0, none⟩)) := fun w' h => by rw [hSd] at h; exact h
    have hSF : ∀ w', Fr (fun k => k = q ∨ r' = some k) V w' → S w' := fun w' hf => by
      rw [hSd]
      have hpl := (hfoot p (.inl rfl)).2
      exact ⟨hf.cell x0 (hfoot' _ (by show w.heap.size < _; omega) (.inr (.inl rfl))), hf.cell b0 (hfoot' _ (by show w.heap.size + 1 < _; omega) (.inr (.inr (.inl rfl)))), hf.cell k0 (hfoot' _ (by show p < _; omega) (.inr (.inr (.inr rfl))))⟩
    have hS0 : S V.drew := hSF _ (Fr.refl _ V).drew
    have hS1 : S ((V.alloc (.cells #[.int .i64 (x + by_)] 3)).drew) := hSF _ ((Fr.refl _ V).alloc _).drew
    have HSF := Lib.hid hSF
    have HSI := Lib.hid hSi
    have HP := Lib.hid hpush
    have HLN := Lib.hid hln
    clear hfin
    clear hSF hSi hSd hpush hln hfV hr hys hfoot' hpr x0 b0 k0 hxl hbl hxV hn' hx hyl hxx
    gi_wp2
    refine wpIn_region_round S hmx (by kernel_rfl) (by rintro ⟨_, _, h⟩; exact h) ?_
    refine wpAnyH_take (i := 0) (v := .pointer (some ⟨p, 0, none⟩)) rfl (by kernel_rfl) (by kernel_rfl) (by kernel_rfl) (fun _ _ _ h => h) (Or.inl ⟨by rfl, fun w' hw => by obtain ⟨s0, s1, s2⟩ := HSI.out w' hw; go_simp⟩) hS0 ?_
    simp only [Act.put]
    refine wpAnyH_take (i := 1) (v := .pointer (some ⟨p, 0, none⟩)) rfl (by kernel_rfl) (by kernel_rfl) (by kernel_rfl) (fun _ _ _ h => h) (Or.inl ⟨by rfl, fun w' hw => by go_simp⟩) hS0 ?_
    simp only [Act.put]
    refine wpAnyH_take (i := 2) (v := .pointer (some ⟨p, 0, none⟩)) rfl (by kernel_rfl) (by kernel_rfl) (by kernel_rfl) (fun _ _ _ h => h) (Or.inl ⟨by rfl, fun w' hw => by go_simp⟩) hS0 ?_
    simp only [Act.put]
    refine wpAnyH_take (i := 3) (v := .pointer (some ⟨q, 0, none⟩)) rfl (by kernel_rfl) (by kernel_rfl) (by kernel_rfl) (fun _ _ _ h => h) (Or.inl ⟨by rfl, fun w' hw => by obtain ⟨s0, s1, s2⟩ := HSI.out w' hw; go_simp⟩) hS0 ?_
    simp only [Act.put]
    refine wpAnyH_take (i := 4) (v := .pointer (some ⟨p, 0, none⟩)) rfl (by kernel_rfl) (by kernel_rfl) (by kernel_rfl) (fun _ _ _ h => h) (Or.inl ⟨by rfl, fun w' hw => by obtain ⟨s0, s1, s2⟩ := HSI.out w' hw; go_simp⟩) hS0 ?_
    simp only [Act.put]
    refine wpAnyH_take (i := 6) (v := .int .i64 x) rfl (by kernel_rfl) (by kernel_rfl) (by kernel_rfl) (fun _ _ _ h => h) (Or.inl ⟨by rfl, fun w' hw => by go_simp⟩) hS0 ?_
    simp only [Act.put]
    refine wpAnyH_take (i := 7) (v := .int .i64 by_) rfl (by kernel_rfl) (by kernel_rfl) (by kernel_rfl) (fun _ _ _ h => h) (Or.inl ⟨by rfl, fun w' hw => by obtain ⟨s0, s1, s2⟩ := HSI.out w' hw; go_simp⟩) hS0 ?_
    simp only [Act.put]
    refine wpAnyH_take (i := 8) (v := .int .i64 (x + by_)) rfl (by kernel_rfl) (by kernel_rfl) (by kernel_rfl) (fun _ _ _ h => h) (Or.inl ⟨by rfl, fun w' hw => by go_simp⟩) hS0 ?_
    simp only [Act.put]
    refine wpAnyH_ready (rs := [5, 9]) (by kernel_rfl) (by simp) ?_
    refine AllReadyH.cons rfl (fun K' hK' => ?_) (AllReadyH.cons rfl (fun K' hK' => ?_) AllReadyH.nil)
    · go_simp
      refine (HLN.out _ (Fr.refl _ V).drew).mono ?_
      rintro e V5 ⟨rfl, rfl⟩
      refine hK'.out _ _ hS0 (fun _ => ?_)
      clear hK' K'
      try simp only [Act.put]
      refine wpAnyH_ready (rs := [9]) (by kernel_rfl) (by simp) ?_
      refine AllReadyH.cons rfl (fun K' hK' => ?_) AllReadyH.nil
      go_simp
      refine hK'.out _ _ hS1 (fun _ => ?_)
      clear hK' K'
      try simp only [Act.put]
      refine wpAnyH_ready (rs := [10]) (by kernel_rfl) (by simp) ?_
      refine AllReadyH.cons rfl (fun K' hK' => ?_) AllReadyH.nil
      go_simp
      refine HP.out.mono ?_
      rintro e V6 ⟨rfl, r6, hx6, hf6, hr6⟩
      have hS6 := HSF.out V6 hf6
      have H6 := Lib.hid (And.intro hx6 (And.intro hf6 hr6))
      clear hx6 hf6 hr6
      refine hK'.out _ _ hS6 (fun _ => ?_)
      clear hK' K'
      try simp only [Act.put]
      refine wpAnyH_done (by kernel_rfl) ?_ _
      gi_wp2
      obtain ⟨hx6, hf6, hr6⟩ := H6.out
      exact HFIN.out V6 r6 hx6 hf6 hr6
    · go_simp
      refine hK'.out _ _ hS1 (fun _ => ?_)
      clear hK' K'
      try simp only [Act.put]
      refine wpAnyH_ready (rs := [5]) (by kernel_rfl) (by simp) ?_
      refine AllReadyH.cons rfl (fun K' hK' => ?_) AllReadyH.nil
      go_simp
      refine (HLN.out _ ((Fr.refl _ V).alloc _).drew).mono ?_
      rintro e V5 ⟨rfl, rfl⟩
      refine hK'.out _ _ hS1 (fun _ => ?_)
      clear hK' K'
      try simp only [Act.put]
      refine wpAnyH_ready (rs := [10]) (by kernel_rfl) (by simp) ?_
      refine AllReadyH.cons rfl (fun K' hK' => ?_) AllReadyH.nil
      go_simp
      refine HP.out.mono ?_
      rintro e V6 ⟨rfl, r6, hx6, hf6, hr6⟩
      have hS6 := HSF.out V6 hf6
      have H6 := Lib.hid (And.intro hx6 (And.intro hf6 hr6))
      clear hx6 hf6 hr6
      refine hK'.out _ _ hS6 (fun _ => ?_)
      clear hK' K'
      try simp only [Act.put]
      refine wpAnyH_done (by kernel_rfl) ?_ _
      gi_wp2
      obtain ⟨hx6, hf6, hr6⟩ := H6.out
      exact HFIN.out V6 r6 hx6 hf6 hr6
  case done =>
    rintro D V hD ⟨r', hxV, hfV, hr⟩ hk
    have hql := (hfoot q (.inr (.inl rfl))).2
    have hfin : Ix (V.putObj D (.deferred none)) base p q r' (zs ++ xs.map (· + by_)) size ∧ Fr (fun b => b = q ∨ r = some b) w (V.putObj D (.deferred none)) ∧ (r' = r ∨ ∃ g, r' = some g ∧ w.heap.size ≤ g) := by
      refine ⟨hxV.own (grownBy_putObj' V D _) (fun k e => by cases e; exact ⟨_, hk, rfl⟩), ((Fr.ofBelow HBW.out _).trans hfV).grown (grownBy_putObj' V D _) (fun k e hlt => by cases e; omega), ?_⟩
      rcases hr with h | ⟨g, h, hg⟩
      · exact .inl h
      · exact .inr ⟨g, h, by omega⟩
    have HFIN := Lib.hid hfin
    clear hxV hfV hr hfin
    gi_wp2
    refine ⟨by simp, .inl ⟨_, _, rfl, run_takeDeferred hk, ?_⟩⟩
    exact ⟨_, results_none rfl _ _ _, ⟨_, rfl⟩, r', HFIN.out⟩
  case stop => exact fun D c pre V _ _ _ h => h.elim

end Go.Proofs.YtfllgmgipmmpkaaGreatDoor.Lx
