/-
  The document's set.
-/
import Derived.Test.YtgfajagajiofnaaRi
set_option linter.unusedVariables false
set_option linter.unusedSimpArgs false
set_option maxRecDepth 100000
namespace Go.Proofs.Ytgfajagajiofnaa.Rg
open Go Go.RowKit Go.Proofs.Ytgfajagajiofnaa.Vk Go.Proofs.Ytgfajagajiofnaa.Str Go.Proofs.Ytgfajagajiofnaa.Ln Go.Proofs.Ytgfajagajiofnaa.Cl Go.Proofs.Ytgfajagajiofnaa.Rl
attribute [local go_sem] Oper.semAt_some

theorem slot0 {w : World} {r : Nat} {x y : Value} {t : TypeId} (h : w.heap[r]? = some (.cells #[x, y] t (0, 0))) (v : Value) : (w.setCell ⟨r, 0, none⟩ v).heap[r]? = some (.cells #[v, y] t (0, 0)) := (heap_setCell_same w r 0 _ _ v h).trans (by simp)
theorem slot1 {w : World} {r : Nat} {x y : Value} {t : TypeId} (h : w.heap[r]? = some (.cells #[x, y] t (0, 0))) (v : Value) : (w.setCell ⟨r, 1, none⟩ v).heap[r]? = some (.cells #[x, v] t (0, 0)) := (heap_setCell_same w r 1 _ _ v h).trans (by simp)
theorem nbs_ins {L : ML R} {k : Nat} {c : Nat} {p : R} : nbs (nms (L.take k ++ (c, p) :: L.drop k)) = (nbs (nms L)).take (k * 1) ++ ([.int .u8 (c : Int)] ++ (nbs (nms L)).drop (k * 1)) := by
  simp [nbs, nms, List.map_take, List.map_drop]
theorem flat_ins {L : ML R} {k : Nat} (hk : k ≤ L.length) {c : Nat} {x : R} : flat (plc (L.take k ++ (c, x) :: L.drop k)) = (flat (plc L)).take (k * 2) ++ ([.int .i64 x.1, sv x.2] ++ (flat (plc L)).drop (k * 2)) := by
  rw [flat_take _ _ (by rw [length_plc]; exact hk), flat_drop _ _ (by rw [length_plc]; exact hk)]
  simp [plc, flat_append, flat_cons, List.map_take, List.map_drop]
set_option maxHeartbeats 4000000 in
theorem set19_raw (r B : Nat) (L : ML R) (c : Nat) (x : Int) (ya : Option Addr) (yn yc : Nat) (w : World) (h : Rfs w B r L) (hl : L.length ≤ 38) (hB : B ≤ w.heap.size) : Calls Try.prog 32 #[.pointer (some ⟨r, 0, none⟩), .int .u8 (c : Int), .agg #[.int .i64 x, .slice ya yn yc]] w fun e w' =>
    e = .returned (.tuple #[]) ∧ Rfs w' B r (ins L c (x, ya, yn, yc)) ∧ Fr (RBlk w r) w w' ∧ (∀ i, RBlk w' r i → RBlk w r i ∨ w.heap.size ≤ i) := by
  obtain ⟨i0, hi0, hz0, hz1, hz2⟩ := info_parts infoU
  obtain ⟨j0, hj0, jz0, jz1, jz2⟩ := info_parts infoP
  obtain ⟨a, ac, a', ac', h1, h2, h3, h4⟩ := h
  have hrl := (Array.getElem?_eq_some_iff.1 h1).1
  obtain ⟨N, hN⟩ : ∃ N, N = L.length := ⟨_, rfl⟩
  rw [← hN] at h1 h3 h4 hl
  obtain ⟨v1, hv1⟩ : ∃ v1, v1 = w.alloc (.cells #[.int .i64 x, .slice ya yn yc] 33) := ⟨_, rfl⟩
  have hb1 : Below w.heap.size w v1 := by rw [hv1]; exact (Below.refl _ _).alloc (Nat.le_refl _) _
  have hp : RegAt v1 w.heap.size (x, ya, yn, yc) := by rw [hv1]; exact RegAt.new w (x, ya, yn, yc)
  have hr1 := (hb1.block r hrl).trans h1
  have HNM := Lib.hid (ownsRow_fr h3 (Fr.ofBelow hb1 (fun _ => False)) (by simp))
  have HPL := Lib.hid (ownsRow_fr h4 (Fr.ofBelow hb1 (fun _ => False)) (by simp))
  have r0 : v1.cell? ⟨r, 0, none⟩ = some (.slice a N ac) := (cell_of_row v1 _ 0 _ _ _ hr1).trans (by simp)
  have r1 : v1.cell? ⟨r, 1, none⟩ = some (.slice a' N ac') := (cell_of_row v1 _ 1 _ _ _ hr1).trans (by simp)
  have HR := Lib.hid (And.intro h1 (And.intro hr1 (And.intro h2 (And.intro h3 h4))))
  have HN := Lib.hid hN
  have HB1 := Lib.hid (And.intro hb1 hrl)
  have hsz : v1.heap.size = w.heap.size + 1 := by rw [hv1]; simp
  have HSZ := Lib.hid (And.intro hsz hB)
  obtain ⟨gp, hgp⟩ : ∃ gp, gp = w.heap.size := ⟨_, rfl⟩
  rw [← hgp] at hp
  have HV := Lib.hid (And.intro hv1 hgp)
  have HP := Lib.hid hp
  clear hN h1 h2 h3 h4 hr1 hrl hb1 hsz hB hv1 hgp hp
  go_enter Try.func32, Try.ntmps32
  go_wp2
  rw [← HV.out.1, ← HV.out.2]
  go_loopw [6] (fun i wr => ∃ k : Nat, k ≤ N ∧ i = .int .i64 k ∧ v1 = wr ∧ Hid (∀ j, ∀ h : j < L.length, j < k → L[j].1 < c)) (fun i _ => N - (RowKit.intOf i).toNat)
  case atStart => exact ⟨0, Nat.zero_le _, rfl, rfl, fun j h hj => by omega⟩
  case round =>
    obtain ⟨k, hk, rfl, rfl, HW⟩ := hrel
    by_cases hkN : k < N
    · have hkL : k < L.length := by have := HN.out; omega
      obtain ⟨ga, oa, hga, hn1, hn2⟩ := Rfs.name HNM.out k hkL
      subst hga
      obtain ⟨d, hd⟩ : ∃ d, d = L[k].1 := ⟨_, rfl⟩
      rw [← hd] at hn1
      have HD := Lib.hid hd
      clear hd
      by_cases hdc : d < c
      · have HW2 : Hid (∀ j, ∀ h : j < L.length, j < k + 1 → L[j].1 < c) := fun j h hj => by
          by_cases e : j = k
          · subst e; rw [← HD.out]; exact hdc
          · exact HW.out j h (by omega)
        have e4 : (d : Int) < (c : Int) := by omega
        clear HW hdc
        go_wp2
        go_roundw
        case rel => exact ⟨k + 1, by omega, by go_num, trivial, HW2⟩
        case measure => simp [RowKit.intOf]; omega
      · have e4 : ¬ (d : Int) < (c : Int) := by omega
        clear hdc
        by_cases hdc : d = c
        · have e5 : ((d : Int) == (c : Int)) = true := by rw [beq_iff_eq]; omega
          have p0 := HP.out.c0
          have p1 : v1.cell? ⟨gp, 1, none⟩ = some (.slice ya yn yc) := HP.out.c1
          go_wp2
          clear hn1
          rcases shape_of HPL.out with ⟨_, h0, _⟩ | ⟨gb, hgb⟩
          · omega
          subst hgb
          have hcap := (cap_of HPL.out).1
          have F_r := fun (C : World → Prop) (hC : Grows v1 C) (z : In C) => hC.cell r1 z
          have F_0 := fun (C : World → Prop) (hC : Grows v1 C) (z : In C) => hC.cell p0 z
          have F_1 := fun (C : World → Prop) (hC : Grows v1 C) (z : In C) => hC.cell p1 z
          refine wp_region_seg [0, 1, 2, 3, 4, 5, 6] [(7, 3)] (by kernel_rfl) (by kernel_rfl) 92 rfl (by kernel_rfl) ?_
          simp only [List.map_cons, List.map_nil, opOf_succ, opOf_zero]
          apply Exists.intro
          refine ⟨fun C hC => ?_, ?_⟩
          · haveI hI := hC.one
            have f_r := F_r C hC
            have f_0 := F_0 C hC
            have f_1 := F_1 C hC
            repeat (go_big_quiet_step (fail))
            exact wpQuiet_nil rfl
          clear F_r F_0 F_1
          refine wpPath_store rfl fun u6 hb6 => ?_
          have hrV := HB1.out.2
          have hpl := ownsRow_fr HPL.out (Fr.ofBelow hb6 (fun _ => False)) (by simp)
          obtain ⟨cs, hcs⟩ := own_row_cells hpl gb rfl
          obtain ⟨gg, oo, hgo, m0, m1, _⟩ := Rfs.place hpl k (by have := HN.out; omega)
          simp only [Option.some.injEq, Addr.mk.injEq, and_true] at hgo
          obtain ⟨rfl, rfl⟩ := hgo
          rw [Nat.zero_add] at m0 m1
          have z0 := fun j => frozen_of_row u6 gb j _ _ hcs
          clear r0 r1 p0 p1
          refine ⟨(u6.setCell ⟨gb, k * 2, none⟩ (.int .i64 x)).setCell ⟨gb, k * 2 + 1, none⟩ (.slice ya yn yc), rfl, by simp only [opOf_succ, opOf_zero]; go_simp, ?_⟩
          simp only [opOf_succ, opOf_zero, Act.put, List.setIfInBounds_toArray, List.set_cons_zero, List.set_cons_succ]
          refine wpPath_end fun v6 hv => ?_
          have hset := own_set hpl hkN (x, ya, yn, yc)
          have hbnd := (hpl.lt gb rfl).2
          have hnew := ownsRow_fr hset (Fr.ofBelow hv (fun _ => False)) (by simp)
          have hfr : Fr (fun j => j = gb) v1 v6 := (((Fr.ofBelow hb6 (fun j => j = gb)).setCell (p := ⟨gb, k * 2, none⟩) (fun _ => rfl) (.int .i64 x)).setCell (p := ⟨gb, k * 2 + 1, none⟩) (fun _ => rfl) (.slice ya yn yc)).trans (Fr.ofBelow hv _)
          have hgr : ¬ r = gb := fun e => by
            subst e
            obtain ⟨cs2, hcs2⟩ := own_row_cells HPL.out r rfl
            rw [HR.out.2.1] at hcs2
            simp only [Option.some.injEq, Obj.cells.injEq] at hcs2
            exact absurd hcs2.2.1 (by decide)
          have hr7 := (hfr.block r (Nat.lt_of_lt_of_le hrV HB1.out.1.size) hgr).trans HR.out.2.1
          have HE := Lib.hid (show Rfs v6 B r (ins L c (x, ya, yn, yc)) by
            have hkL : k < L.length := by have := HN.out; omega
            rw [(ins_at (x, ya, yn, yc) (by omega) (fun j h hj => HW.out j h hj)).1 hkL (by rw [← HD.out]; exact hdc)]
            have hlen : (L.set k (c, (x, ya, yn, yc))).length = N := by rw [List.length_set]; exact HN.out.symm
            refine ⟨_, _, _, _, by rw [hlen]; exact hr7, HR.out.2.2.1, ?_, ?_⟩
            · rw [hlen, show nms (L.set k (c, (x, ya, yn, yc))) = nms L by
                unfold nms
                rw [List.map_set]
                refine List.ext_getElem (by simp) fun i h1 h2 => ?_
                rw [List.getElem_set]
                split
                · rename_i e
                  subst e
                  rw [List.getElem_map, ← HD.out]
                  exact hdc.symm
                · rfl]
              exact ownsRow_fr HNM.out hfr (fun i hi e => by
                subst e
                obtain ⟨cs2, hcs2⟩ := own_row_cells HNM.out i hi
                obtain ⟨cs3, hcs3⟩ := own_row_cells HPL.out i rfl
                rw [hcs2] at hcs3
                simp only [Option.some.injEq, Obj.cells.injEq] at hcs3
                exact absurd hcs3.2.1 (by decide))
            · rw [hlen, show plc (L.set k (c, (x, ya, yn, yc))) = (plc L).set k (x, ya, yn, yc) by unfold plc; rw [List.map_set]]
              exact hnew)
          have HNB := Lib.hid (show ∀ i, RBlk v6 r i → RBlk w r i ∨ w.heap.size ≤ i from fun i hi => .inl (hi.back (hr7.trans HR.out.1.symm)))
          have HFF := Lib.hid (show Fr (RBlk w r) w v6 from (((Fr.ofBelow HB1.out.1 (fun j => j = gb)).trans hfr).mono (fun i _ e => .inr ⟨_, _, _, HR.out.1, .inr (by rw [e]; rfl)⟩)))
          clear hnew hset hbnd hfr hgr hr7 hv z0 m0 m1 hcs hpl hrV hb6
          go_wp2
          (try simp only [Exit.inBlock, Exit.then])
          first | refine bodyPost_end (results_none rfl _ _ _) rfl ?_ | refine bodyPost_ret (results_none rfl _ _ _) rfl ?_
          exact ⟨rfl, HE.out, HFF.out, HNB.out⟩
        · have HOUT : Hid (∀ h : k < L.length, c < L[k].1) := fun h => by rw [← HD.out]; omega
          have e5 : ((d : Int) == (c : Int)) = false := by rw [beq_eq_false_iff_ne]; omega
          have hk : k ≤ N := by omega
          go_wp2
          clear hn1
          have F_r := fun (C : World → Prop) (hC : Grows v1 C) (z : In C) => hC.cell r0 z
          refine wp_region_seg [0, 1, 2, 3, 4, 5, 6, 8, 10, 11, 12, 13, 14] [(7, 2), (15, 2), (9, 1), (16, 1), (17, 1), (18, 2), (19, 2), (20, 3)] (by kernel_rfl) (by kernel_rfl) 92 rfl (by kernel_rfl) ?_
          simp only [List.map_cons, List.map_nil, opOf_succ, opOf_zero]
          apply Exists.intro
          refine ⟨fun C hC => ?_, ?_⟩
          · haveI hI := hC.one
            have f_r := F_r C hC
            repeat (go_big_quiet_step (fail))
            exact wpQuiet_nil rfl
          clear F_r 
          refine wpPath_free (v := .slice (some ⟨ga, oa, none⟩) k k) rfl rfl (run_uptoU HNM.out hk) ?_
          simp only [opOf_succ, opOf_zero, Act.put, List.setIfInBounds_toArray, List.set_cons_zero, List.set_cons_succ]
          refine wpPath_free (v := .slice (fromA (some ⟨ga, oa, none⟩) ac k 1) (N - k) (ac - k)) rfl rfl (run_fromU HNM.out hk) ?_
          simp only [opOf_succ, opOf_zero, Act.put, List.setIfInBounds_toArray, List.set_cons_zero, List.set_cons_succ]
          refine wpPath_make rfl fun u0 hu0 => ⟨.slice (some ⟨u0.heap.size, 0, none⟩) 1 1, u0.alloc (.cells #[.int .u8 (c : Int)] TU), rfl, by simp only [opOf_succ, opOf_zero]; go_simp, (Below.refl _ u0).alloc (Nat.le_refl _) _, ?_⟩
          simp only [opOf_succ, opOf_zero, Act.put, List.setIfInBounds_toArray, List.set_cons_zero, List.set_cons_succ]
          have hs1 := SrcV.one8 u0 (c : Int)
          obtain ⟨u1, hu1⟩ : ∃ u1, u1 = u0.alloc (.cells #[.int .u8 (c : Int)] TU) := ⟨_, rfl⟩
          have hb1 : Below v1.heap.size v1 u1 := by rw [hu1]; exact below_on hu0 ((Below.refl _ u0).alloc (Nat.le_refl _) _)
          rw [← hu1] at hs1 ⊢
          obtain ⟨g1, hg1⟩ : ∃ g, g = u0.heap.size := ⟨_, rfl⟩
          rw [← hg1] at hs1 ⊢
          clear hu1 hg1 hu0
          refine wpPath_make rfl fun u2 hu2 => ?_
          obtain ⟨b3, c3, u3, hr3, hb3, hs3, _⟩ := run_append_full (P := Try.prog) u2 27 27 TU i0 (.int .u8 0) 1 1 underU hi0 hz0 hz1 hz2 rfl (by decide) _ 1 _ (SrcV.below hs1 hu2) _ (N - k) _ (SrcV.below (SrcV.from' HNM.out hk (nbs_one _)) (below_on hb1 hu2)) (by simp only [maxLen]; omega) (by omega)
          refine ⟨_, u3, rfl, by simp only [opOf_succ, opOf_zero]; exact exec_append rfl rfl rfl hr3, hb3, ?_⟩
          simp only [opOf_succ, opOf_zero, Act.put, List.setIfInBounds_toArray, List.set_cons_zero, List.set_cons_succ]
          clear hr3
          refine wpPath_make rfl fun u4 hu4 => ?_
          obtain ⟨b5, c5, u5, hr5, hb5, _, hs5⟩ := run_append_full (P := Try.prog) u4 27 27 TU i0 (.int .u8 0) 1 1 underU hi0 hz0 hz1 hz2 rfl (by decide) (some ⟨ga, oa, none⟩) k _ (SrcV.below (SrcV.upto HNM.out hk (nbs_one _)) (below_on (below_on hb1 hu2) (below_on hb3 hu4))) _ (1 + (N - k)) _ (SrcV.below hs3 hu4) (by simp only [maxLen]; omega) (by omega)
          refine ⟨_, u5, rfl, by simp only [opOf_succ, opOf_zero]; exact exec_append rfl rfl rfl hr5, hb5, ?_⟩
          simp only [opOf_succ, opOf_zero, Act.put, List.setIfInBounds_toArray, List.set_cons_zero, List.set_cons_succ]
          clear hr5
          refine wpPath_free (v := .pointer (some ⟨r, 0, none⟩)) rfl rfl (fun _ => rfl) ?_
          simp only [opOf_succ, opOf_zero, Act.put, List.setIfInBounds_toArray, List.set_cons_zero, List.set_cons_succ]
          refine wpPath_free (v := .pointer (some ⟨r, 0, none⟩)) rfl rfl (fun W => by simp only [opOf_succ, opOf_zero]; go_simp) ?_
          simp only [opOf_succ, opOf_zero, Act.put, List.setIfInBounds_toArray, List.set_cons_zero, List.set_cons_succ]
          refine wpPath_store rfl fun u6 hu6 => ?_
          have hb6 := below_on (below_on hb1 hu2) (below_on hb3 (below_on hu4 (below_on hb5 hu6)))
          have hrV := HB1.out.2
          have hr6 := (hb6.block r (Nat.lt_of_lt_of_le hrV HB1.out.1.size)).trans HR.out.2.1
          have m0 : u6.cell? ⟨r, 0, none⟩ = some _ := (cell_of_row u6 _ 0 _ _ _ hr6).trans rfl
          have z0 := frozen_of_row u6 r 0 _ _ hr6
          have hs6 := hs5 (by omega)
          have hg5 : r < u4.heap.size := by
            have e1 := (below_on (below_on hb1 hu2) (below_on hb3 hu4)).size
            have e2 := HB1.out.1.size
            omega
          have hB4 : B ≤ u4.heap.size := by
            have e1 := (below_on (below_on hb1 hu2) (below_on hb3 hu4)).size
            have e2 := HB1.out.1.size
            have e3 := HSZ.out.2
            omega
          clear r0 r1
          refine ⟨u6.setCell ⟨r, 0, none⟩ (.slice b5 (k + (1 + (N - k))) c5), rfl, by simp only [opOf_succ, opOf_zero]; go_simp, ?_⟩
          simp only [opOf_succ, opOf_zero, Act.put, List.setIfInBounds_toArray, List.set_cons_zero, List.set_cons_succ]
          refine wpPath_end fun v6 hv => ?_
          have hr7 := (hv.block r (by have := hb6.size; have := HB1.out.1.size; simp; omega)).trans (slot0 hr6 (.slice b5 (k + (1 + (N - k))) c5))
          have hfr : Fr (fun j => j = r) v1 v6 := ((Fr.ofBelow hb6 (fun j => j = r)).setCell (p := ⟨r, 0, none⟩) (fun _ => rfl) _).trans (Fr.ofBelow hv _)
          have hge : ∀ i, (Value.slice b5 (k + (1 + (N - k))) c5).ownBlock = some i → w.heap.size ≤ i := fun i hi => by
            have e0 := (hs6.lt i hi).1
            have e1 := (below_on (below_on hb1 hu2) (below_on hb3 hu4)).size
            have e2 := HB1.out.1.size
            omega
          have hnew := ownsRow_mono (ownsRow_fr hs6 (((Fr.ofBelow hu6 (fun j => j = r)).setCell (p := ⟨r, 0, none⟩) (fun _ => rfl) (.slice b5 (k + (1 + (N - k))) c5)).trans (Fr.ofBelow hv _)) (fun i hi e => by have := (hs6.lt i hi).1; omega)) hB4
          have HF6 := Lib.hid hfr
          have HR6 := Lib.hid hr7
          have HNEW := Lib.hid hnew
          have HGU := Lib.hid hge
          have HPL6 := Lib.hid (ownsRow_fr HPL.out hfr (fun i hi e => by
            subst e
            obtain ⟨cs, hcs⟩ := own_row_cells HPL.out i hi
            rw [HR.out.2.1] at hcs
            simp only [Option.some.injEq, Obj.cells.injEq] at hcs
            exact absurd hcs.2.1 (by decide)))
          have hp6 := HP.out.fr hfr (fun e => by
            subst e
            have hcs := HP.out
            unfold RegAt at hcs
            rw [HR.out.2.1] at hcs
            simp only [Option.some.injEq, Obj.cells.injEq] at hcs
            exact absurd hcs.2.1 (by decide))
          have p0 := hp6.c0
          have p1 : v6.cell? ⟨gp, 1, none⟩ = some (.slice ya yn yc) := hp6.c1
          have r1 : v6.cell? ⟨r, 1, none⟩ = some (.slice a' N ac') := (cell_of_row v6 _ 1 _ _ _ hr7).trans (by simp)
          clear hge hnew hfr hr7 hv hB4 hg5 hs6 z0 m0 hr6 hrV hb6 hs5 hb5 hs3 hb3 hu2 hu4 hu6 hs1 hb1 hp6
          go_wp2

          have F_r := fun (C : World → Prop) (hC : Grows v6 C) (z : In C) => hC.cell r1 z
          have F_0 := fun (C : World → Prop) (hC : Grows v6 C) (z : In C) => hC.cell p0 z
          have F_1 := fun (C : World → Prop) (hC : Grows v6 C) (z : In C) => hC.cell p1 z
          refine wp_region_seg [0, 1, 2, 3, 4, 5, 6, 8, 10, 11, 12, 13, 14] [(7, 2), (15, 2), (9, 1), (16, 1), (17, 1), (18, 2), (19, 2), (20, 3)] (by kernel_rfl) (by kernel_rfl) 92 rfl (by kernel_rfl) ?_
          simp only [List.map_cons, List.map_nil, opOf_succ, opOf_zero]
          apply Exists.intro
          refine ⟨fun C hC => ?_, ?_⟩
          · haveI hI := hC.one
            have f_r := F_r C hC
            have f_0 := F_0 C hC
            have f_1 := F_1 C hC
            repeat (go_big_quiet_step (fail))
            exact wpQuiet_nil rfl
          clear F_r F_0 F_1
          refine wpPath_free (v := .slice a' k k) rfl rfl (run_uptoP HPL6.out hk) ?_
          simp only [opOf_succ, opOf_zero, Act.put, List.setIfInBounds_toArray, List.set_cons_zero, List.set_cons_succ]
          refine wpPath_free (v := .slice (fromA a' ac' k 2) (N - k) (ac' - k)) rfl rfl (run_fromP HPL6.out hk) ?_
          simp only [opOf_succ, opOf_zero, Act.put, List.setIfInBounds_toArray, List.set_cons_zero, List.set_cons_succ]
          refine wpPath_make rfl fun u0 hu0 => ⟨.slice (some ⟨u0.heap.size, 0, none⟩) 1 1, u0.alloc (.cells #[.int .i64 x, .slice ya yn yc] TR), rfl, by simp only [opOf_succ, opOf_zero]; go_simp, (Below.refl _ u0).alloc (Nat.le_refl _) _, ?_⟩
          simp only [opOf_succ, opOf_zero, Act.put, List.setIfInBounds_toArray, List.set_cons_zero, List.set_cons_succ]
          have hs1 : SrcV (u0.alloc (.cells #[.int .i64 x, .slice ya yn yc] TR)) 2 (.slice (some ⟨u0.heap.size, 0, none⟩) 1 1) 1 [.int .i64 x, .slice ya yn yc] := SrcV.reg u0 (x, ya, yn, yc)
          obtain ⟨u1, hu1⟩ : ∃ u1, u1 = u0.alloc (.cells #[.int .i64 x, .slice ya yn yc] TR) := ⟨_, rfl⟩
          have hb1 : Below v6.heap.size v6 u1 := by rw [hu1]; exact below_on hu0 ((Below.refl _ u0).alloc (Nat.le_refl _) _)
          rw [← hu1] at hs1 ⊢
          obtain ⟨g1, hg1⟩ : ∃ g, g = u0.heap.size := ⟨_, rfl⟩
          rw [← hg1] at hs1 ⊢
          clear hu1 hg1 hu0
          refine wpPath_make rfl fun u2 hu2 => ?_
          obtain ⟨b3, c3, u3, hr3, hb3, hs3, _⟩ := run_append_full (P := Try.prog) u2 28 28 TR j0 (.agg #[.int .i64 0, .slice none 0 0]) 2 32 underP hj0 jz0 jz1 jz2 rfl (by decide) _ 1 _ (SrcV.below hs1 hu2) _ (N - k) _ (SrcV.below (SrcV.from' HPL6.out hk (flat_cells _)) (below_on hb1 hu2)) (by simp only [maxLen]; omega) (by omega)
          refine ⟨_, u3, rfl, by simp only [opOf_succ, opOf_zero]; exact exec_append rfl rfl rfl hr3, hb3, ?_⟩
          simp only [opOf_succ, opOf_zero, Act.put, List.setIfInBounds_toArray, List.set_cons_zero, List.set_cons_succ]
          clear hr3
          refine wpPath_make rfl fun u4 hu4 => ?_
          obtain ⟨b5, c5, u5, hr5, hb5, _, hs5⟩ := run_append_full (P := Try.prog) u4 28 28 TR j0 (.agg #[.int .i64 0, .slice none 0 0]) 2 32 underP hj0 jz0 jz1 jz2 rfl (by decide) a' k _ (SrcV.below (SrcV.upto HPL6.out hk (flat_cells _)) (below_on (below_on hb1 hu2) (below_on hb3 hu4))) _ (1 + (N - k)) _ (SrcV.below hs3 hu4) (by simp only [maxLen]; omega) (by omega)
          refine ⟨_, u5, rfl, by simp only [opOf_succ, opOf_zero]; exact exec_append rfl rfl rfl hr5, hb5, ?_⟩
          simp only [opOf_succ, opOf_zero, Act.put, List.setIfInBounds_toArray, List.set_cons_zero, List.set_cons_succ]
          clear hr5
          refine wpPath_free (v := .pointer (some ⟨r, 0, none⟩)) rfl rfl (fun _ => rfl) ?_
          simp only [opOf_succ, opOf_zero, Act.put, List.setIfInBounds_toArray, List.set_cons_zero, List.set_cons_succ]
          refine wpPath_free (v := .pointer (some ⟨r, 1, none⟩)) rfl rfl (fun W => by simp only [opOf_succ, opOf_zero]; go_simp) ?_
          simp only [opOf_succ, opOf_zero, Act.put, List.setIfInBounds_toArray, List.set_cons_zero, List.set_cons_succ]
          refine wpPath_store rfl fun u6 hu6 => ?_
          have hb6 := below_on (below_on hb1 hu2) (below_on hb3 (below_on hu4 (below_on hb5 hu6)))
          have hrV := HB1.out.2
          have hr6 := (hb6.block r (Nat.lt_of_lt_of_le hrV (Nat.le_trans HB1.out.1.size HF6.out.size))).trans HR6.out
          have m0 : u6.cell? ⟨r, 1, none⟩ = some _ := (cell_of_row u6 _ 1 _ _ _ hr6).trans rfl
          have z0 := frozen_of_row u6 r 1 _ _ hr6
          have hs6 := hs5 (by omega)
          have hg5 : r < u4.heap.size := by
            have e1 := (below_on (below_on hb1 hu2) (below_on hb3 hu4)).size
            have e2 := HB1.out.1.size
            have e3 := HF6.out.size; omega
          have hB4 : B ≤ u4.heap.size := by
            have e1 := (below_on (below_on hb1 hu2) (below_on hb3 hu4)).size
            have e2 := HB1.out.1.size
            have e3 := HSZ.out.2
            have e4 := HF6.out.size; omega
          clear r1 p0 p1
          refine ⟨u6.setCell ⟨r, 1, none⟩ (.slice b5 (k + (1 + (N - k))) c5), rfl, by simp only [opOf_succ, opOf_zero]; go_simp, ?_⟩
          simp only [opOf_succ, opOf_zero, Act.put, List.setIfInBounds_toArray, List.set_cons_zero, List.set_cons_succ]
          refine wpPath_end fun v9 hv => ?_
          have hr7 := (hv.block r (by have := hb6.size; have := HB1.out.1.size; have := HF6.out.size; simp; omega)).trans (slot1 hr6 (.slice b5 (k + (1 + (N - k))) c5))
          have hfr : Fr (fun j => j = r) v6 v9 := ((Fr.ofBelow hb6 (fun j => j = r)).setCell (p := ⟨r, 1, none⟩) (fun _ => rfl) _).trans (Fr.ofBelow hv _)
          have hge : ∀ i, (Value.slice b5 (k + (1 + (N - k))) c5).ownBlock = some i → w.heap.size ≤ i := fun i hi => by
            have e0 := (hs6.lt i hi).1
            have e1 := (below_on (below_on hb1 hu2) (below_on hb3 hu4)).size
            have e2 := HB1.out.1.size
            have e3 := HF6.out.size; omega
          have hnew := ownsRow_mono (ownsRow_fr hs6 (((Fr.ofBelow hu6 (fun j => j = r)).setCell (p := ⟨r, 1, none⟩) (fun _ => rfl) (.slice b5 (k + (1 + (N - k))) c5)).trans (Fr.ofBelow hv _)) (fun i hi e => by have := (hs6.lt i hi).1; omega)) hB4
          have HE := Lib.hid (show Rfs v9 B r (ins L c (x, ya, yn, yc)) by
            have hkL : k ≤ L.length := by have := HN.out; omega
            rw [(ins_at (x, ya, yn, yc) hkL (fun j h hj => HW.out j h hj)).2 HOUT.out]
            have hlen : (L.take k ++ (c, (x, ya, yn, yc)) :: L.drop k).length = k + (1 + (N - k)) := by
              rw [List.length_append, List.length_cons, List.length_take, List.length_drop, HN.out]
              omega
            refine ⟨_, _, _, _, by rw [hlen]; exact hr7, HR.out.2.2.1, ?_, ?_⟩
            · rw [hlen, nbs_ins]
              exact ownsRow_fr HNEW.out hfr (fun i hi e => by
                subst e
                obtain ⟨cs, hcs⟩ := own_row_cells HNEW.out i hi
                rw [HR6.out] at hcs
                simp only [Option.some.injEq, Obj.cells.injEq] at hcs
                exact absurd hcs.2.1 (by decide))
            · rw [hlen, flat_ins hkL]
              exact hnew)
          have HNB := Lib.hid (show ∀ i, RBlk v9 r i → RBlk w r i ∨ w.heap.size ≤ i from fun i hi => by
            rcases hi with rfl | ⟨X, Y, t, e, hi⟩
            · exact .inl (.inl rfl)
            · rw [hr7] at e
              simp only [Option.some.injEq, Obj.cells.injEq, Array.mk.injEq, List.cons.injEq, and_true] at e
              obtain ⟨⟨rfl, rfl⟩, rfl⟩ := e
              rcases hi with hi | hi
              · exact .inr (HGU.out i hi)
              · exact .inr (hge i hi))
          have HFF := Lib.hid (show Fr (RBlk w r) w v9 from (((Fr.ofBelow HB1.out.1 _).trans (HF6.out.trans hfr)).mono (fun i _ e => .inl e)))
          clear hge hnew hfr hr7 hv hB4 hg5 hs6 z0 m0 hr6 hrV hb6 hs5 hb5 hs3 hb3 hu2 hu4 hu6 hs1 hb1
          go_wp2
          (try simp only [Exit.inBlock, Exit.then])
          first | refine bodyPost_end (results_none rfl _ _ _) rfl ?_ | refine bodyPost_ret (results_none rfl _ _ _) rfl ?_
          exact ⟨rfl, HE.out, HFF.out, HNB.out⟩
    · have HOUT : Hid (∀ h : k < L.length, c < L[k].1) := fun h => by have := HN.out; omega
      go_wp2
      have F_r := fun (C : World → Prop) (hC : Grows v1 C) (z : In C) => hC.cell r0 z
      refine wp_region_seg [0, 1, 2, 3, 4, 5, 6, 8, 10, 11, 12, 13, 14] [(7, 2), (15, 2), (9, 1), (16, 1), (17, 1), (18, 2), (19, 2), (20, 3)] (by kernel_rfl) (by kernel_rfl) 92 rfl (by kernel_rfl) ?_
      simp only [List.map_cons, List.map_nil, opOf_succ, opOf_zero]
      apply Exists.intro
      refine ⟨fun C hC => ?_, ?_⟩
      · haveI hI := hC.one
        have f_r := F_r C hC
        repeat (go_big_quiet_step (fail))
        exact wpQuiet_nil rfl
      clear F_r 
      refine wpPath_free (v := .slice a k k) rfl rfl (run_uptoU HNM.out hk) ?_
      simp only [opOf_succ, opOf_zero, Act.put, List.setIfInBounds_toArray, List.set_cons_zero, List.set_cons_succ]
      refine wpPath_free (v := .slice (fromA a ac k 1) (N - k) (ac - k)) rfl rfl (run_fromU HNM.out hk) ?_
      simp only [opOf_succ, opOf_zero, Act.put, List.setIfInBounds_toArray, List.set_cons_zero, List.set_cons_succ]
      refine wpPath_make rfl fun u0 hu0 => ⟨.slice (some ⟨u0.heap.size, 0, none⟩) 1 1, u0.alloc (.cells #[.int .u8 (c : Int)] TU), rfl, by simp only [opOf_succ, opOf_zero]; go_simp, (Below.refl _ u0).alloc (Nat.le_refl _) _, ?_⟩
      simp only [opOf_succ, opOf_zero, Act.put, List.setIfInBounds_toArray, List.set_cons_zero, List.set_cons_succ]
      have hs1 := SrcV.one8 u0 (c : Int)
      obtain ⟨u1, hu1⟩ : ∃ u1, u1 = u0.alloc (.cells #[.int .u8 (c : Int)] TU) := ⟨_, rfl⟩
      have hb1 : Below v1.heap.size v1 u1 := by rw [hu1]; exact below_on hu0 ((Below.refl _ u0).alloc (Nat.le_refl _) _)
      rw [← hu1] at hs1 ⊢
      obtain ⟨g1, hg1⟩ : ∃ g, g = u0.heap.size := ⟨_, rfl⟩
      rw [← hg1] at hs1 ⊢
      clear hu1 hg1 hu0
      refine wpPath_make rfl fun u2 hu2 => ?_
      obtain ⟨b3, c3, u3, hr3, hb3, hs3, _⟩ := run_append_full (P := Try.prog) u2 27 27 TU i0 (.int .u8 0) 1 1 underU hi0 hz0 hz1 hz2 rfl (by decide) _ 1 _ (SrcV.below hs1 hu2) _ (N - k) _ (SrcV.below (SrcV.from' HNM.out hk (nbs_one _)) (below_on hb1 hu2)) (by simp only [maxLen]; omega) (by omega)
      refine ⟨_, u3, rfl, by simp only [opOf_succ, opOf_zero]; exact exec_append rfl rfl rfl hr3, hb3, ?_⟩
      simp only [opOf_succ, opOf_zero, Act.put, List.setIfInBounds_toArray, List.set_cons_zero, List.set_cons_succ]
      clear hr3
      refine wpPath_make rfl fun u4 hu4 => ?_
      obtain ⟨b5, c5, u5, hr5, hb5, _, hs5⟩ := run_append_full (P := Try.prog) u4 27 27 TU i0 (.int .u8 0) 1 1 underU hi0 hz0 hz1 hz2 rfl (by decide) a k _ (SrcV.below (SrcV.upto HNM.out hk (nbs_one _)) (below_on (below_on hb1 hu2) (below_on hb3 hu4))) _ (1 + (N - k)) _ (SrcV.below hs3 hu4) (by simp only [maxLen]; omega) (by omega)
      refine ⟨_, u5, rfl, by simp only [opOf_succ, opOf_zero]; exact exec_append rfl rfl rfl hr5, hb5, ?_⟩
      simp only [opOf_succ, opOf_zero, Act.put, List.setIfInBounds_toArray, List.set_cons_zero, List.set_cons_succ]
      clear hr5
      refine wpPath_free (v := .pointer (some ⟨r, 0, none⟩)) rfl rfl (fun _ => rfl) ?_
      simp only [opOf_succ, opOf_zero, Act.put, List.setIfInBounds_toArray, List.set_cons_zero, List.set_cons_succ]
      refine wpPath_free (v := .pointer (some ⟨r, 0, none⟩)) rfl rfl (fun W => by simp only [opOf_succ, opOf_zero]; go_simp) ?_
      simp only [opOf_succ, opOf_zero, Act.put, List.setIfInBounds_toArray, List.set_cons_zero, List.set_cons_succ]
      refine wpPath_store rfl fun u6 hu6 => ?_
      have hb6 := below_on (below_on hb1 hu2) (below_on hb3 (below_on hu4 (below_on hb5 hu6)))
      have hrV := HB1.out.2
      have hr6 := (hb6.block r (Nat.lt_of_lt_of_le hrV HB1.out.1.size)).trans HR.out.2.1
      have m0 : u6.cell? ⟨r, 0, none⟩ = some _ := (cell_of_row u6 _ 0 _ _ _ hr6).trans rfl
      have z0 := frozen_of_row u6 r 0 _ _ hr6
      have hs6 := hs5 (by omega)
      have hg5 : r < u4.heap.size := by
        have e1 := (below_on (below_on hb1 hu2) (below_on hb3 hu4)).size
        have e2 := HB1.out.1.size
        omega
      have hB4 : B ≤ u4.heap.size := by
        have e1 := (below_on (below_on hb1 hu2) (below_on hb3 hu4)).size
        have e2 := HB1.out.1.size
        have e3 := HSZ.out.2
        omega
      clear r0 r1
      refine ⟨u6.setCell ⟨r, 0, none⟩ (.slice b5 (k + (1 + (N - k))) c5), rfl, by simp only [opOf_succ, opOf_zero]; go_simp, ?_⟩
      simp only [opOf_succ, opOf_zero, Act.put, List.setIfInBounds_toArray, List.set_cons_zero, List.set_cons_succ]
      refine wpPath_end fun v6 hv => ?_
      have hr7 := (hv.block r (by have := hb6.size; have := HB1.out.1.size; simp; omega)).trans (slot0 hr6 (.slice b5 (k + (1 + (N - k))) c5))
      have hfr : Fr (fun j => j = r) v1 v6 := ((Fr.ofBelow hb6 (fun j => j = r)).setCell (p := ⟨r, 0, none⟩) (fun _ => rfl) _).trans (Fr.ofBelow hv _)
      have hge : ∀ i, (Value.slice b5 (k + (1 + (N - k))) c5).ownBlock = some i → w.heap.size ≤ i := fun i hi => by
        have e0 := (hs6.lt i hi).1
        have e1 := (below_on (below_on hb1 hu2) (below_on hb3 hu4)).size
        have e2 := HB1.out.1.size
        omega
      have hnew := ownsRow_mono (ownsRow_fr hs6 (((Fr.ofBelow hu6 (fun j => j = r)).setCell (p := ⟨r, 0, none⟩) (fun _ => rfl) (.slice b5 (k + (1 + (N - k))) c5)).trans (Fr.ofBelow hv _)) (fun i hi e => by have := (hs6.lt i hi).1; omega)) hB4
      have HF6 := Lib.hid hfr
      have HR6 := Lib.hid hr7
      have HNEW := Lib.hid hnew
      have HGU := Lib.hid hge
      have HPL6 := Lib.hid (ownsRow_fr HPL.out hfr (fun i hi e => by
        subst e
        obtain ⟨cs, hcs⟩ := own_row_cells HPL.out i hi
        rw [HR.out.2.1] at hcs
        simp only [Option.some.injEq, Obj.cells.injEq] at hcs
        exact absurd hcs.2.1 (by decide)))
      have hp6 := HP.out.fr hfr (fun e => by
        subst e
        have hcs := HP.out
        unfold RegAt at hcs
        rw [HR.out.2.1] at hcs
        simp only [Option.some.injEq, Obj.cells.injEq] at hcs
        exact absurd hcs.2.1 (by decide))
      have p0 := hp6.c0
      have p1 : v6.cell? ⟨gp, 1, none⟩ = some (.slice ya yn yc) := hp6.c1
      have r1 : v6.cell? ⟨r, 1, none⟩ = some (.slice a' N ac') := (cell_of_row v6 _ 1 _ _ _ hr7).trans (by simp)
      clear hge hnew hfr hr7 hv hB4 hg5 hs6 z0 m0 hr6 hrV hb6 hs5 hb5 hs3 hb3 hu2 hu4 hu6 hs1 hb1 hp6
      go_wp2

      have F_r := fun (C : World → Prop) (hC : Grows v6 C) (z : In C) => hC.cell r1 z
      have F_0 := fun (C : World → Prop) (hC : Grows v6 C) (z : In C) => hC.cell p0 z
      have F_1 := fun (C : World → Prop) (hC : Grows v6 C) (z : In C) => hC.cell p1 z
      refine wp_region_seg [0, 1, 2, 3, 4, 5, 6, 8, 10, 11, 12, 13, 14] [(7, 2), (15, 2), (9, 1), (16, 1), (17, 1), (18, 2), (19, 2), (20, 3)] (by kernel_rfl) (by kernel_rfl) 92 rfl (by kernel_rfl) ?_
      simp only [List.map_cons, List.map_nil, opOf_succ, opOf_zero]
      apply Exists.intro
      refine ⟨fun C hC => ?_, ?_⟩
      · haveI hI := hC.one
        have f_r := F_r C hC
        have f_0 := F_0 C hC
        have f_1 := F_1 C hC
        repeat (go_big_quiet_step (fail))
        exact wpQuiet_nil rfl
      clear F_r F_0 F_1
      refine wpPath_free (v := .slice a' k k) rfl rfl (run_uptoP HPL6.out hk) ?_
      simp only [opOf_succ, opOf_zero, Act.put, List.setIfInBounds_toArray, List.set_cons_zero, List.set_cons_succ]
      refine wpPath_free (v := .slice (fromA a' ac' k 2) (N - k) (ac' - k)) rfl rfl (run_fromP HPL6.out hk) ?_
      simp only [opOf_succ, opOf_zero, Act.put, List.setIfInBounds_toArray, List.set_cons_zero, List.set_cons_succ]
      refine wpPath_make rfl fun u0 hu0 => ⟨.slice (some ⟨u0.heap.size, 0, none⟩) 1 1, u0.alloc (.cells #[.int .i64 x, .slice ya yn yc] TR), rfl, by simp only [opOf_succ, opOf_zero]; go_simp, (Below.refl _ u0).alloc (Nat.le_refl _) _, ?_⟩
      simp only [opOf_succ, opOf_zero, Act.put, List.setIfInBounds_toArray, List.set_cons_zero, List.set_cons_succ]
      have hs1 : SrcV (u0.alloc (.cells #[.int .i64 x, .slice ya yn yc] TR)) 2 (.slice (some ⟨u0.heap.size, 0, none⟩) 1 1) 1 [.int .i64 x, .slice ya yn yc] := SrcV.reg u0 (x, ya, yn, yc)
      obtain ⟨u1, hu1⟩ : ∃ u1, u1 = u0.alloc (.cells #[.int .i64 x, .slice ya yn yc] TR) := ⟨_, rfl⟩
      have hb1 : Below v6.heap.size v6 u1 := by rw [hu1]; exact below_on hu0 ((Below.refl _ u0).alloc (Nat.le_refl _) _)
      rw [← hu1] at hs1 ⊢
      obtain ⟨g1, hg1⟩ : ∃ g, g = u0.heap.size := ⟨_, rfl⟩
      rw [← hg1] at hs1 ⊢
      clear hu1 hg1 hu0
      refine wpPath_make rfl fun u2 hu2 => ?_
      obtain ⟨b3, c3, u3, hr3, hb3, hs3, _⟩ := run_append_full (P := Try.prog) u2 28 28 TR j0 (.agg #[.int .i64 0, .slice none 0 0]) 2 32 underP hj0 jz0 jz1 jz2 rfl (by decide) _ 1 _ (SrcV.below hs1 hu2) _ (N - k) _ (SrcV.below (SrcV.from' HPL6.out hk (flat_cells _)) (below_on hb1 hu2)) (by simp only [maxLen]; omega) (by omega)
      refine ⟨_, u3, rfl, by simp only [opOf_succ, opOf_zero]; exact exec_append rfl rfl rfl hr3, hb3, ?_⟩
      simp only [opOf_succ, opOf_zero, Act.put, List.setIfInBounds_toArray, List.set_cons_zero, List.set_cons_succ]
      clear hr3
      refine wpPath_make rfl fun u4 hu4 => ?_
      obtain ⟨b5, c5, u5, hr5, hb5, _, hs5⟩ := run_append_full (P := Try.prog) u4 28 28 TR j0 (.agg #[.int .i64 0, .slice none 0 0]) 2 32 underP hj0 jz0 jz1 jz2 rfl (by decide) a' k _ (SrcV.below (SrcV.upto HPL6.out hk (flat_cells _)) (below_on (below_on hb1 hu2) (below_on hb3 hu4))) _ (1 + (N - k)) _ (SrcV.below hs3 hu4) (by simp only [maxLen]; omega) (by omega)
      refine ⟨_, u5, rfl, by simp only [opOf_succ, opOf_zero]; exact exec_append rfl rfl rfl hr5, hb5, ?_⟩
      simp only [opOf_succ, opOf_zero, Act.put, List.setIfInBounds_toArray, List.set_cons_zero, List.set_cons_succ]
      clear hr5
      refine wpPath_free (v := .pointer (some ⟨r, 0, none⟩)) rfl rfl (fun _ => rfl) ?_
      simp only [opOf_succ, opOf_zero, Act.put, List.setIfInBounds_toArray, List.set_cons_zero, List.set_cons_succ]
      refine wpPath_free (v := .pointer (some ⟨r, 1, none⟩)) rfl rfl (fun W => by simp only [opOf_succ, opOf_zero]; go_simp) ?_
      simp only [opOf_succ, opOf_zero, Act.put, List.setIfInBounds_toArray, List.set_cons_zero, List.set_cons_succ]
      refine wpPath_store rfl fun u6 hu6 => ?_
      have hb6 := below_on (below_on hb1 hu2) (below_on hb3 (below_on hu4 (below_on hb5 hu6)))
      have hrV := HB1.out.2
      have hr6 := (hb6.block r (Nat.lt_of_lt_of_le hrV (Nat.le_trans HB1.out.1.size HF6.out.size))).trans HR6.out
      have m0 : u6.cell? ⟨r, 1, none⟩ = some _ := (cell_of_row u6 _ 1 _ _ _ hr6).trans rfl
      have z0 := frozen_of_row u6 r 1 _ _ hr6
      have hs6 := hs5 (by omega)
      have hg5 : r < u4.heap.size := by
        have e1 := (below_on (below_on hb1 hu2) (below_on hb3 hu4)).size
        have e2 := HB1.out.1.size
        have e3 := HF6.out.size; omega
      have hB4 : B ≤ u4.heap.size := by
        have e1 := (below_on (below_on hb1 hu2) (below_on hb3 hu4)).size
        have e2 := HB1.out.1.size
        have e3 := HSZ.out.2
        have e4 := HF6.out.size; omega
      clear r1 p0 p1
      refine ⟨u6.setCell ⟨r, 1, none⟩ (.slice b5 (k + (1 + (N - k))) c5), rfl, by simp only [opOf_succ, opOf_zero]; go_simp, ?_⟩
      simp only [opOf_succ, opOf_zero, Act.put, List.setIfInBounds_toArray, List.set_cons_zero, List.set_cons_succ]
      refine wpPath_end fun v9 hv => ?_
      have hr7 := (hv.block r (by have := hb6.size; have := HB1.out.1.size; have := HF6.out.size; simp; omega)).trans (slot1 hr6 (.slice b5 (k + (1 + (N - k))) c5))
      have hfr : Fr (fun j => j = r) v6 v9 := ((Fr.ofBelow hb6 (fun j => j = r)).setCell (p := ⟨r, 1, none⟩) (fun _ => rfl) _).trans (Fr.ofBelow hv _)
      have hge : ∀ i, (Value.slice b5 (k + (1 + (N - k))) c5).ownBlock = some i → w.heap.size ≤ i := fun i hi => by
        have e0 := (hs6.lt i hi).1
        have e1 := (below_on (below_on hb1 hu2) (below_on hb3 hu4)).size
        have e2 := HB1.out.1.size
        have e3 := HF6.out.size; omega
      have hnew := ownsRow_mono (ownsRow_fr hs6 (((Fr.ofBelow hu6 (fun j => j = r)).setCell (p := ⟨r, 1, none⟩) (fun _ => rfl) (.slice b5 (k + (1 + (N - k))) c5)).trans (Fr.ofBelow hv _)) (fun i hi e => by have := (hs6.lt i hi).1; omega)) hB4
      have HE := Lib.hid (show Rfs v9 B r (ins L c (x, ya, yn, yc)) by
        have hkL : k ≤ L.length := by have := HN.out; omega
        rw [(ins_at (x, ya, yn, yc) hkL (fun j h hj => HW.out j h hj)).2 HOUT.out]
        have hlen : (L.take k ++ (c, (x, ya, yn, yc)) :: L.drop k).length = k + (1 + (N - k)) := by
          rw [List.length_append, List.length_cons, List.length_take, List.length_drop, HN.out]
          omega
        refine ⟨_, _, _, _, by rw [hlen]; exact hr7, HR.out.2.2.1, ?_, ?_⟩
        · rw [hlen, nbs_ins]
          exact ownsRow_fr HNEW.out hfr (fun i hi e => by
            subst e
            obtain ⟨cs, hcs⟩ := own_row_cells HNEW.out i hi
            rw [HR6.out] at hcs
            simp only [Option.some.injEq, Obj.cells.injEq] at hcs
            exact absurd hcs.2.1 (by decide))
        · rw [hlen, flat_ins hkL]
          exact hnew)
      have HNB := Lib.hid (show ∀ i, RBlk v9 r i → RBlk w r i ∨ w.heap.size ≤ i from fun i hi => by
        rcases hi with rfl | ⟨X, Y, t, e, hi⟩
        · exact .inl (.inl rfl)
        · rw [hr7] at e
          simp only [Option.some.injEq, Obj.cells.injEq, Array.mk.injEq, List.cons.injEq, and_true] at e
          obtain ⟨⟨rfl, rfl⟩, rfl⟩ := e
          rcases hi with hi | hi
          · exact .inr (HGU.out i hi)
          · exact .inr (hge i hi))
      have HFF := Lib.hid (show Fr (RBlk w r) w v9 from (((Fr.ofBelow HB1.out.1 _).trans (HF6.out.trans hfr)).mono (fun i _ e => .inl e)))
      clear hge hnew hfr hr7 hv hB4 hg5 hs6 z0 m0 hr6 hrV hb6 hs5 hb5 hs3 hb3 hu2 hu4 hu6 hs1 hb1
      go_wp2
      (try simp only [Exit.inBlock, Exit.then])
      first | refine bodyPost_end (results_none rfl _ _ _) rfl ?_ | refine bodyPost_ret (results_none rfl _ _ _) rfl ?_
      exact ⟨rfl, HE.out, HFF.out, HNB.out⟩
end Go.Proofs.Ytgfajagajiofnaa.Rg
