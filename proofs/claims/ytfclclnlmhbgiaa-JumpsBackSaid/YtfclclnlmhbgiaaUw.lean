/-
  The iterators of indexes of package vec have their contracts.
-/
import Derived.Test.YtfclclnlmhbgiaaRf
import Derived.Test.YtfclclnlmhbgiaaUv
set_option linter.unusedVariables false
set_option linter.unusedSimpArgs false
set_option maxRecDepth 100000
namespace Go.Proofs.Ytfclclnlmhbgiaa.VecQ
open Go Go.RowKit Go.Proofs.Ytfclclnlmhbgiaa.Vk Go.Proofs.Ytfclclnlmhbgiaa.Ps Go.Proofs.Ytfclclnlmhbgiaa.Ml Go.Shelf
attribute [local go_sem] Oper.semAt_some

theorem range_split (n k : Nat) (h : k < n) : ∃ rest, List.range n = List.range k ++ k :: rest := by
  refine ⟨(List.range n).drop (k + 1), ?_⟩
  have h1 : List.range k = (List.range n).take k := by rw [List.take_range]; congr 1; omega
  rw [h1]
  have h2 : (List.range n).drop k = k :: (List.range n).drop (k + 1) := by
    rw [List.drop_eq_getElem_cons (by simpa using h)]; simp
  rw [← h2, List.take_append_drop]

theorem asc_iter (b n : Nat) (w : World) (hc : w.cell? ⟨b, 0, none⟩ = some (.int .i64 n)) (hn : n ≤ 1000000) :
    Iter Try.prog 40 #[.pointer (some ⟨b, 0, none⟩)] (fun k : Nat => #[.int .i64 k]) 0 (fun W W' => W'.heap[b]? = W.heap[b]?) (List.range n) w := fun l J Jx W hW hJ hJx hY h0 => by
  have hcW : W.cell? ⟨b, 0, none⟩ = some (.int .i64 n) := (hW.cell (World.block_lt_of_cell? w _ hc)).trans hc
  refine callsIn_of_wp Try.func40 rfl trivial ?_ rfl
  simp only [Try.ntmps40, List.size_toArray, List.length_cons, List.length_nil, Nat.reduceAdd, Nat.reduceSub, Array.replicate_succ, Array.replicate_zero, List.push_toArray, List.append_toArray, List.nil_append, List.cons_append]
  gi_wp2
  gi_loopw [5] (fun i wr => ∃ k : Nat, k ≤ n ∧ i = .int .i64 k ∧ Hid (J (List.range k) wr) ∧ W.heap.size ≤ wr.heap.size) (fun i _ => n - (RowKit.intOf i).toNat)
  case atStart => exact ⟨0, Nat.zero_le _, rfl, h0, Nat.le_refl _⟩
  case round =>
    obtain ⟨k, hk, rfl, hj, hsz⟩ := hrel
    by_cases hkn : k < n
    · obtain ⟨fn, tmps, assign, body, hy, hR⟩ := hY (List.range k) k wr (range_split n k hkn) (by omega) hj.out
      have HR := Lib.hid hR
      clear hR
      gi_wp2
      refine (roundIn_any HR.out).mono ?_
      rintro e W3 ⟨⟨hsz3, _⟩, (⟨rfl, hJ3, hk3⟩ | ⟨rfl, hJx3⟩)⟩
      · have H3 := Lib.hid hJ3
        clear hJ3 hk3
        gi_wp2
        go_roundw
        case rel => exact ⟨k + 1, by omega, by go_num, by rw [List.range_succ]; exact H3.out, by omega⟩
        case measure => simp [RowKit.intOf]; omega
      · have H3 := Lib.hid hJx3
        clear hJx3
        gi_wp2
        refine bodyPost_ret (results_none rfl _ _ _) rfl ?_
        refine ⟨⟨_, rfl⟩, .inr ⟨List.range k ++ [k], ?_, by simp, H3.out⟩⟩
        obtain ⟨rest, hr⟩ := range_split n k hkn
        exact ⟨rest, by rw [hr]; simp⟩
    · obtain rfl : k = n := by omega
      gi_wp2
      go_end0
      exact ⟨⟨_, rfl⟩, .inl hj.out⟩

theorem asc_new (n : Int) (w : World) : Calls Try.prog 36 #[.int .i64 n] w fun e w' => e = .returned (.func (.func 40) #[] #[.pointer (some ⟨w.heap.size, 0, none⟩)]) ∧ w.alloc (.cells #[.int .i64 n] 3) = w' := by
  go_enter Try.func36, Try.ntmps36
  go_wp2
  go_ret
  exact ⟨rfl, rfl⟩

theorem Keep.ofBelow {lo hi : Nat} {A B : World} (h : Below A.heap.size A B) (hh : hi ≤ A.heap.size) : Keep lo hi A B := ⟨h.size, fun k _ hk => h.block k (by omega)⟩

set_option maxHeartbeats 2000000 in
theorem all_iter (base p bo bv : Nat) (r : Option Nat) (ps : List P2) (w : World) (h : IsVec w base TV E 2 p r ps.length (flat ps)) (hn : ps.length ≤ 1000000)
    (S : Nat → Prop) (hSp : ¬ S p) (hSr : ∀ k, r = some k → ¬ S k) (hSv : ¬ S bv)
    (hbo : w.cell? ⟨bo, 0, none⟩ = some (.func (.func 36) #[] #[])) (hbv : w.cell? ⟨bv, 0, none⟩ = some (.pointer (some ⟨p, 0, none⟩))) :
    Iter Try.prog 39 #[.pointer (some ⟨bo, 0, none⟩), .pointer (some ⟨bv, 0, none⟩)] (fun x : Nat × P2 => #[.int .i64 x.1, pv x.2]) 4 (fun W W' => Fr (fun k => S k ∨ w.heap.size ≤ k) W W') ((List.range ps.length).map fun k => (k, ps.getD k (0, 0))) w := fun l J Jx W hW hJ hJx hY h0 => by
  have hs := hW.size
  have hs' := hs
  have hbow := World.block_lt_of_cell? w _ hbo
  have hbvw := World.block_lt_of_cell? w _ hbv
  have hbo' := (hW.cell hbow).trans hbo
  have hbv' := (hW.cell hbvw).trans hbv
  have hv := h.fr (Fr.ofBelow hW (fun _ => False)) (by simp) (by simp)
  have HV := Lib.hid hv
  have HV0 := Lib.hid h
  obtain ⟨sa, sc, h1, h2, h3, h4, h5⟩ := hv
  have hc := cell_of_row W p 0 _ _ _ h1
  simp at hc
  clear h1 h2 h3 h4 h5 h
  have hp := (HV.out).lt.2
  have l1 : bo < W.heap.size := Nat.lt_of_lt_of_le hbow hs
  have l2 : bv < W.heap.size := Nat.lt_of_lt_of_le hbvw hs
  have n1 : ¬ (bo = W.heap.size) := by omega
  have n2 : ¬ (bv = W.heap.size) := by omega
  have n3 : ¬ (p = W.heap.size) := by omega
  refine callsIn_of_wp_marks Try.func39 rfl trivial ?_ rfl
  simp only [Try.ntmps39, List.size_toArray, List.length_cons, List.length_nil, Nat.reduceAdd, Nat.reduceSub, Array.replicate_succ, Array.replicate_zero, List.push_toArray, List.append_toArray, List.nil_append, List.cons_append]
  have hmx : Try.prog.follows .mixedOrders = true := by kernel_rfl
  refine wpIn_mono (Q := noPanic _) ?_ (noPanic_out _)
  gi_wp2
  gi_region_with_o (refine ⟨trivial, ?_⟩; gi_at_call 36; refine (callsIn_wide.2 (asc_new _ _)).mono ?_; rintro e w' ⟨rfl, rfl⟩)
  all_goals gi_wp2
  all_goals
    obtain ⟨Wi, hWi⟩ : ∃ Wi, Wi = ((W.alloc (.cells #[.func (.yield l) #[] #[]] 71)).alloc (.cells #[.int .i64 ps.length] 3)).drew := ⟨_, rfl⟩
    rw [← hWi]
    have hsi : Wi.heap.size = W.heap.size + 2 := by rw [hWi]; simp
    have hbi : Below W.heap.size W Wi := by rw [hWi]; exact (((Below.refl _ W).alloc (Nat.le_refl _) _).alloc (by simp) _).drew
    have hji : J [] Wi := by rw [hWi]; exact hJ _ _ _ none (hJ.alloc _ (hJ.alloc _ h0)) ⟨rfl, rfl, rfl, Nat.le_refl _, fun _ _ _ => rfl⟩ (by simp)
    have hyb : Wi.heap[W.heap.size]? = some (.cells #[.func (.yield l) #[] #[]] 71 (0, 0)) := by
      rw [hWi]
      exact (Below.heap_alloc (W.alloc _) _ _ (by simp)).trans (heap_alloc_new W _)
    have hlb : Wi.cell? ⟨W.heap.size + 1, 0, none⟩ = some (.int .i64 ps.length) := by
      rw [hWi]
      have := cell_of_row ((W.alloc (.cells #[.func (.yield l) #[] #[]] 71)).alloc (.cells #[.int .i64 ps.length] 3)) (W.heap.size + 1) 0 #[.int .i64 ps.length] 3 (0, 0) (by have := heap_alloc_new (W.alloc (.cells #[.func (.yield l) #[] #[]] 71)) (.cells #[.int .i64 ps.length] 3); simpa using this)
      exact this.trans (by simp)
    clear hWi
    refine rangeFunc_iter (by omega) (gf := 40) (lb := #[.pointer (some ⟨W.heap.size + 1, 0, none⟩)]) rfl (enters_of Try.func40 (by kernel_rfl) rfl) (asc_iter (W.heap.size + 1) ps.length Wi hlb hn)
      (fun h1 h2 => h2.trans h1) (fun V lx o o' hlx _ _ _ => World.putObj_heap_other (by omega)) (Below.refl _ _) (fun _ => rfl)
      (fun pre V => J (pre.map fun k => (k, ps.getD k (0, 0))) V ∧ Fr (fun k => S k ∨ w.heap.size ≤ k) W V ∧ V.heap[W.heap.size]? = some (.cells #[.func (.yield l) #[] #[]] 71 (0, 0)))
      (fun c pre V => c = .ret ∧ Jx (pre.map fun k => (k, ps.getD k (0, 0))) V) ?hI ?hIx ⟨hji, Fr.ofBelow hbi _, hyb⟩ ?round ?done ?stop
    case hI =>
      refine OwnFrom.and (fun s A B row hs hg hr => ownFrom_mono hJ (by omega) _ _ _ row hs hg hr) (OwnFrom.and ?_ ?_)
      · exact fun s A B row hs hg hr => Fr.grown hs hg (fun k e _ => .inr (by have := (hr k e).1; omega))
      · exact fun s A B row hs hg hr => (hg.block _ (Array.getElem?_eq_some_iff.1 hs).1 (fun e => by have := (hr _ e.symm).1; omega)).trans hs
    case hIx => exact fun c s A B row hs hg hr => ⟨hs.1, ownFrom_mono hJx (by omega) _ _ _ row hs.2 hg hr⟩
    case round =>
      rintro l' pre x V0 ⟨rest, hpr⟩ _ hi0
      gi_wp2
      refine ⟨Keep.refl _ _ _, ?_, hi0, ?_⟩
      · first | trivial | rfl | exact Fr.refl _ _
      rintro V - - - hsz ⟨hj, hB, hbx⟩
      clear hi0
      have hxn : x < ps.length := by
        have : x ∈ List.range ps.length := by rw [hpr]; simp
        simpa using this
      have hBW : Fr (fun k => S k ∨ w.heap.size ≤ k) w V := (Fr.ofBelow hW _).trans hB
      have hv3 := HV0.out.fr hBW (fun h => h.elim hSp (fun h => by have := HV0.out.lt.2; omega)) (fun k hk h => h.elim (hSr k hk) (fun h => by have := (HV0.out.rowLt k hk).2; omega))
      have hz3 : ps[x]? = some (ps.getD x (0, 0)) := by
        rw [List.getD_eq_getElem?_getD, List.getElem?_eq_getElem hxn]; rfl
      have hat := at_in base p r ps x (ps.getD x (0, 0)) V hv3 hn hz3
      have hbv3 : V.cell? ⟨bv, 0, none⟩ = some (.pointer (some ⟨p, 0, none⟩)) := hBW.cell hbv (fun h => h.elim hSv (fun h => by have h' : w.heap.size ≤ bv := h; omega))
      have HP := Lib.hid hpr
      have HB := Lib.hid hB
      have HX := Lib.hid hbx
      have HA := Lib.hid hat
      have HJ0 := Lib.hid hj
      clear hpr hB hbx hv3 hz3 hj hBW hat
      obtain ⟨zx, hzx⟩ : ∃ zx, zx = ps.getD x (0, 0) := ⟨_, rfl⟩
      rw [← hzx] at HA
      have HZX := Lib.hid hzx
      clear hzx
      obtain ⟨zb, zs⟩ := zx
      have HA2 : Hid (Calls Try.prog 24 #[.pointer (some ⟨p, 0, none⟩), .int .i64 x] V fun e w' => e = .returned (.tuple #[.agg #[.int .i64 zb, .int .i64 zs], .bool true]) ∧ Below V.heap.size V w') := HA.out
      clear HA
      gi_wp2_with fail
      refine ⟨trivial, ?_⟩
      refine (CallsIn.inRound l' (callsIn_wide.2 HA2.out)).mono ?_
      rintro e V4 ⟨rfl, hb4⟩
      obtain ⟨V5, hV5⟩ : ∃ V5, V5 = V4.alloc (.cells #[.int .i64 zb, .int .i64 zs] E) := ⟨_, rfl⟩
      have hs4 := hb4.size
      have hb5 : Below V.heap.size V V5 := by rw [hV5]; exact hb4.alloc hs4 _
      have hj5 : J (pre.map fun k => (k, ps.getD k (0, 0))) V5 := by
        rw [hV5]
        exact hJ.alloc _ (hJ _ _ _ none HJ0.out ⟨hb4.os, hb4.tape, hb4.output, hb4.size, fun k hk _ => hb4.block k hk⟩ (by simp))
      have hyb3 : V4.cell? ⟨W.heap.size, 0, none⟩ = some (.func (.yield l) #[] #[]) := (cell_of_row V4 _ _ _ _ _ ((hb4.block _ (by omega)).trans HX.out)).trans (by simp)
      have hs5 := hb5.size
      have hlt4 : W.heap.size < V4.heap.size := by omega
      obtain ⟨fn, tmps, assign, body, hy, hR⟩ := hY (pre.map fun k => (k, ps.getD k (0, 0))) (x, ps.getD x (0, 0)) V5 ⟨rest.map fun k => (k, ps.getD k (0, 0)), by rw [HP.out]; simp⟩ (by omega) hj5
      rw [← HZX.out] at hy hR
      dsimp only [pv] at hy hR
      have HR := Lib.hid hR
      have HB5 := Lib.hid hb5
      have HV5 := Lib.hid hV5
      rw [hV5] at hy
      clear hR hb5 hj5 hV5 hb4
      gi_wp2
      rw [← HV5.out]
      refine (roundIn_in l' HR.out).mono ?_
      rintro e V3 ⟨hkeep, (⟨rfl, hJ3, hk3⟩ | ⟨rfl, hJx3⟩)⟩
      · have H3 := Lib.hid hJ3
        have HK := Lib.hid hkeep
        have HB3 := Lib.hid hk3
        clear hJ3 hkeep hk3
        gi_wp2
        refine ⟨(Keep.ofBelow HB5.out (by omega)).trans (HK.out.mono (by omega) (by omega)), (HK.out.same _ (by omega) (by omega)).trans (HB5.out.block _ (by omega)), ?_, ?_, (HK.out.same _ (by omega) (by omega)).trans ((HB5.out.block _ (by omega)).trans HX.out)⟩
        · have := H3.out
          rw [HZX.out] at this
          rw [List.map_append]
          exact this
        · exact HB.out.trans ((Fr.ofBelow HB5.out _).trans HB3.out)
      · have H3 := Lib.hid hJx3
        have HK := Lib.hid hkeep
        clear hJx3 hkeep
        gi_wp2
        refine ⟨(Keep.ofBelow HB5.out (by omega)).trans (HK.out.mono (by omega) (by omega)), rfl, ?_⟩
        have := H3.out
        rw [HZX.out] at this
        rw [List.map_append]
        exact this
    case done =>
      rintro D V hD ⟨hj, hB, _⟩ hk
      gi_wp2
      refine ⟨by simp, .inl ⟨_, _, rfl, run_takeDeferred hk, ?_⟩⟩
      exact ⟨_, results_none rfl _ _ _, ⟨_, rfl⟩, .inl (hJ.putObj _ hj (by omega) hk rfl)⟩
    case stop =>
      rintro D c pre V hD hpre hne ⟨rfl, hjx⟩ hk
      gi_wp2
      refine ⟨by simp, .inl ⟨_, _, rfl, run_takeDeferred hk, ?_⟩⟩
      exact ⟨_, results_none rfl _ _ _, ⟨_, rfl⟩, .inr ⟨_, List.IsPrefix.map _ hpre, by simpa using hne, hJx.putObj _ hjx (by omega) hk rfl⟩⟩

theorem walk_new (p : Nat) (o : Value) (w : World) : Calls Try.prog 35 #[.pointer (some ⟨p, 0, none⟩), .func (.func 36) #[] #[]] w fun e w' =>
    e = .returned (.func (.func 39) #[] #[.pointer (some ⟨w.heap.size + 1, 0, none⟩), .pointer (some ⟨w.heap.size, 0, none⟩)]) ∧ (w.alloc (.cells #[.pointer (some ⟨p, 0, none⟩)] 48)).alloc (.cells #[.func (.func 36) #[] #[]] 69) = w' := by
  go_enter Try.func35, Try.ntmps35
  go_wp2
  go_ret
  exact ⟨rfl, rfl⟩

theorem all_new (p : Nat) (w : World) : Calls Try.prog 28 #[.pointer (some ⟨p, 0, none⟩)] w fun e w' =>
    e = .returned (.func (.func 39) #[] #[.pointer (some ⟨w.heap.size + 1, 0, none⟩), .pointer (some ⟨w.heap.size, 0, none⟩)]) ∧ (w.alloc (.cells #[.pointer (some ⟨p, 0, none⟩)] 48)).alloc (.cells #[.func (.func 36) #[] #[]] 69) = w' := by
  go_enter Try.func28, Try.ntmps28
  go_wp2
  go_ret
  exact ⟨rfl, rfl⟩

end Go.Proofs.Ytfclclnlmhbgiaa.VecQ
