/-
  The package's registers beside the document's: same.
-/
import Derived.Test.YtgfajagajiofnaaRn
set_option linter.unusedVariables false
set_option linter.unusedSimpArgs false
set_option maxRecDepth 100000
namespace Go.Proofs.Ytgfajagajiofnaa.Rg
open Go Go.RowKit Go.Proofs.Ytgfajagajiofnaa.Vk Go.Proofs.Ytgfajagajiofnaa.Str Go.Proofs.Ytgfajagajiofnaa.Ln Go.Proofs.Ytgfajagajiofnaa.Cl Go.Proofs.Ytgfajagajiofnaa.Rl
attribute [local go_sem] Oper.semAt_some

theorem reg_vn {c : Nat} (h : vn c) : reg c = c := by
  unfold vn at h
  unfold reg
  rw [if_neg (by omega), if_neg (by omega)]
theorem Tl.at {P : R → G → Prop} {A : ML R} {L : ML G} (h : Tl P A L) (hs : Srt L) {k : Nat} (hk : k < A.length) : ∃ g, lk L A[k].1 = some g ∧ P A[k].2 g := by
  rcases Tl.look h A[k].1 with ⟨e1, e2⟩ | ⟨x, g, e1, e2, hp⟩
  · rw [look_some (Tl.srt h hs) (List.getElem_mem hk)] at e1
    cases e1
  · rw [look_some (Tl.srt h hs) (List.getElem_mem hk)] at e1
    cases e1
    exact ⟨g, e2, hp⟩
set_option maxHeartbeats 4000000 in
theorem same_any (B m b r : Nat) (L : ML G) (w : World) (h1 : Fls w B m b L) (h2 : Rfg w B r L) (hok : Ok L) (hB : B ≤ w.heap.size) : Calls Try.prog 20 #[.pointer (some ⟨m, 0, none⟩), .pointer (some ⟨r, 0, none⟩)] w fun e w' => e = .returned (.bool true) ∧ Below w.heap.size w w' := by
  obtain ⟨RL, hr, htl⟩ := h2
  have hnm := fun W (hb : Below w.heap.size w W) => names_any B m b L W (h1.below hb) hok
  have hnn : nms RL = nms L := Tl.names htl
  have hll : RL.length = L.length := Tl.length htl
  obtain ⟨ra, rac, rb, rbc, k1, k2, k3, k4⟩ := hr
  have hr0 : w.cell? ⟨r, 0, none⟩ = some (.slice ra RL.length rac) := (cell_of_row w _ 0 _ _ _ k1).trans (by simp)
  have hr1 : w.cell? ⟨r, 1, none⟩ = some (.slice rb RL.length rbc) := (cell_of_row w _ 1 _ _ _ k1).trans (by simp)
  have hcd : ∀ (W : World), Below w.heap.size w W → (convert 27 9 (.slice ra RL.length rac)).run Try.prog W = .ok (.string (strN (nms RL))) W := fun W hb => conv_names (SrcV.below (SrcV.ofOwn k3 (nbs_one _)) hb)
  have hcv : ∀ (W : World) (aa : Option Addr) (cc : Nat), SrcV W 1 (.slice aa L.length cc) L.length (nbs (nms L)) → (convert 27 9 (.slice aa L.length cc)).run Try.prog W = .ok (.string (strN (nms L))) W := fun W aa cc h => conv_names h
  obtain ⟨N, hN⟩ : ∃ N, N = RL.length := ⟨_, rfl⟩
  obtain ⟨St, hSt⟩ : ∃ St, St = strN (nms RL) := ⟨_, rfl⟩
  rw [← hnn, ← hSt, ← hll, ← hN] at hcv
  rw [← hll, ← hnn, ← hN] at hnm
  rw [← hN, ← hSt] at hcd
  rw [← hN] at hr0 hr1 k3 k4
  have hN38 : N ≤ 38 := by rw [hN, hll]; exact length_ok hok
  have H := Lib.hid (And.intro h1 (And.intro hok (And.intro hB (And.intro hN (And.intro k3 (And.intro k4 htl))))))
  have HCV := Lib.hid hcv
  have HC := Lib.hid (And.intro hr0 hr1)
  clear h1 hok hB hN k1 k2 k3 k4 htl hSt hnn hll hcv hr1
  go_enter Try.func20, Try.ntmps20
  go_wp2_with fail
  have F_0 := fun (C : World → Prop) (hC : Grows w C) (z : In C) => hC.cell hr0 z
  have F_1 := fun (C : World → Prop) (hC : Grows w C) (z : In C) => hcd _ (hC.below _ z.isIn)
  refine wp_region_seg [0, 3, 4, 5, 6, 7] [(1, 1), (2, 1), (8, 2)] (by kernel_rfl) (by kernel_rfl) 52 rfl (by kernel_rfl) ?_
  simp only [List.map_cons, List.map_nil, opOf_succ, opOf_zero]
  apply Exists.intro
  refine ⟨fun C hC => ?_, ?_⟩
  · haveI hI := hC.one
    have f_0 := F_0 C hC
    have f_1 := F_1 C hC
    repeat (go_big_quiet_step (fail))
    exact wpQuiet_nil rfl
  clear F_0 F_1
  clear hcd hr0
  refine wpPath_call (f := 28) (args := #[.pointer (some ⟨m, 0, none⟩)]) rfl rfl (fun W => by simp only [opOf_succ, opOf_zero]; go_simp) ?_
  intro A1 hA1
  refine (hnm _ hA1).mono ?_
  rintro e A2 ⟨na, nc, rfl, hsrc, _, hA2⟩
  refine ⟨_, rfl, hA2, ?_⟩
  simp only [opOf_succ, opOf_zero, Act.put, List.setIfInBounds_toArray, List.set_cons_zero, List.set_cons_succ]
  clear hnm
  refine wpPath_make rfl fun A3 hA3 => ?_
  have hc3 := HCV.out A3 na nc (SrcV.below hsrc hA3)
  refine ⟨.string St, A3, rfl, by simp only [opOf_succ, opOf_zero]; go_simp, Below.refl _ _, ?_⟩
  simp only [opOf_succ, opOf_zero, Act.put, List.setIfInBounds_toArray, List.set_cons_zero, List.set_cons_succ]
  clear hc3
  refine wpPath_free (v := .bool false) rfl rfl (fun W => by simp only [opOf_succ, opOf_zero]; go_simp) ?_
  simp only [opOf_succ, opOf_zero, Act.put, List.setIfInBounds_toArray, List.set_cons_zero, List.set_cons_succ]
  refine wpPath_end fun A5 hA5 => ?_
  have HB := Lib.hid (below_on (below_on hA1 hA2) (below_on hA3 hA5))
  clear hA1 hA2 hA3 hA5 hsrc
  go_wp2
  go_loopw [5] (fun i wr => ∃ k : Nat, k ≤ N ∧ i = .int .i64 k ∧ Hid (Below w.heap.size w wr)) (fun i _ => N - (RowKit.intOf i).toNat)
  case atStart => exact ⟨0, Nat.zero_le _, rfl, HB.out⟩
  case round =>
    obtain ⟨k, hk, rfl, HW⟩ := hrel
    have r0 := cell_later HW.out HC.out.1
    by_cases hkN : k < N
    · have hkL : k < RL.length := by have := H.out.2.2.2.1; omega
      obtain ⟨g, hlk, hel⟩ := Tl.at H.out.2.2.2.2.2.2 H.out.2.1.1 hkL
      have hvn := (ok_look H.out.2.1 hlk).1
      obtain ⟨ga, oa, hga, hn1, hn2⟩ := Rfs.name H.out.2.2.2.2.1 k hkL
      obtain ⟨gb, ob, hgb, hp1, hp2, hp3⟩ := Rfs.place H.out.2.2.2.2.2.1 k hkL
      subst hga hgb
      obtain ⟨c, hc⟩ : ∃ c, c = RL[k].1 := ⟨_, rfl⟩
      rw [← hc] at hlk hvn hn1
      obtain ⟨x, hx⟩ : ∃ x, x = RL[k].2 := ⟨_, rfl⟩
      rw [← hx] at hel hp1 hp2
      have hc256 : c < 256 := by unfold vn at hvn; omega
      have hg1 := get_any c B m b L wr (H.out.1.below HW.out) H.out.2.1 hc256 (Nat.le_trans H.out.2.2.1 HW.out.size)
      rw [reg_vn hvn, hlk] at hg1
      change Calls Try.prog _ _ _ (fun e w' => RbOut wr B g true e w') at hg1
      obtain ⟨xk, xa, xn, xc⟩ := x
      simp only [sv] at hp2
      have hn1 := cell_later HW.out hn1
      have HP := Lib.hid (And.intro hp1 (And.intro hp2 (And.intro hp3 (hel.below HW.out))))
      clear hc hx hlk hvn hp1 hp2 hp3 hel
      go_wp2_with fail
      refine hg1.mono ?_
      rintro e v1 ⟨⟨k1, a1, n1, c1⟩, rfl, he1, hb1⟩
      simp only [rv, sv]
      clear hg1 hn1 r0
      go_upto_region 7 with fail
      obtain ⟨v2, hv2⟩ : ∃ v2, v2 = v1.alloc (.cells #[.int .i64 k1, .slice a1 n1 c1] 33) := ⟨_, rfl⟩
      have hb2 : Below v1.heap.size v1 v2 := by rw [hv2]; exact one_below _ _
      have hr2 : RegAt v2 v1.heap.size (k1, a1, n1, c1) := by rw [hv2]; exact RegAt.new v1 (k1, a1, n1, c1)
      obtain ⟨g1, hg1⟩ : ∃ g1, g1 = v1.heap.size := ⟨_, rfl⟩
      rw [← hg1] at hr2
      rw [← hv2, ← hg1]
      have hb12 := below_on hb1 hb2
      have hreg := fun W (hb : Below v2.heap.size v2 W) => reg_true (w := W) (B := B) ((he1.below hb2).below hb) (HP.out.2.2.2.below (below_on hb12 hb))
      have p0 := hr2.c0
      have p1 : v2.cell? ⟨g1, 1, none⟩ = some (.slice a1 n1 c1) := hr2.c1
      have r1 := cell_later (below_on HW.out hb12) HC.out.2
      have q0 := cell_later (below_on HW.out hb12) HP.out.1
      have q1 := cell_later (below_on HW.out hb12) HP.out.2.1
      have hcap := HP.out.2.2.1
      have HV := Lib.hid (below_on HW.out hb12)
      clear hv2 hb2 hr2 hg1 he1 hb1 hb12
      go_wp2_with fail
      have F_0 := fun (C : World → Prop) (hC : Grows v2 C) (z : In C) => hC.cell p0 z
      have F_1 := fun (C : World → Prop) (hC : Grows v2 C) (z : In C) => hC.cell p1 z
      have F_2 := fun (C : World → Prop) (hC : Grows v2 C) (z : In C) => hC.cell r1 z
      have F_3 := fun (C : World → Prop) (hC : Grows v2 C) (z : In C) => hC.cell q0 z
      have F_4 := fun (C : World → Prop) (hC : Grows v2 C) (z : In C) => hC.cell q1 z
      have F_5 := fun (C : World → Prop) (hC : Grows v2 C) (z : In C) => Calls.in_of hC (hreg z.W (hC.below _ z.isIn))
      refine wp_region_seg [0, 1, 2, 3, 4, 5, 6, 7, 8, 9, 10, 11, 12, 13] [] (by kernel_rfl) (by kernel_rfl) 52 rfl (by kernel_rfl) ?_
      simp only [List.map_cons, List.map_nil, opOf_succ, opOf_zero]
      apply Exists.intro
      refine ⟨fun C hC => ?_, ?_⟩
      · haveI hI := hC.one
        have f_0 := F_0 C hC
        have f_1 := F_1 C hC
        have f_2 := F_2 C hC
        have f_3 := F_3 C hC
        have f_4 := F_4 C hC
        have f_5 := F_5 C hC
        repeat (go_big_quiet_step (first | (go_at_call 23; exact f_5 _)))
        exact wpQuiet_nil rfl
      clear F_0 F_1 F_2 F_3 F_4 F_5
      refine wpPath_end fun v3 hb3 => ?_
      have HE : Hid (Below w.heap.size w v3) := below_on HV.out hb3
      clear hb3 hreg p0 p1 r1 q0 q1
      go_wp2
      go_roundw
      case rel => exact ⟨k + 1, by omega, by go_num, HE⟩
      case measure => simp [RowKit.intOf]; omega
    · obtain rfl : k = N := by omega
      go_wp2
      go_ret
      exact ⟨rfl, HW.out⟩
end Go.Proofs.Ytgfajagajiofnaa.Rg
