/-
  The law MarksNames, walked.
-/
import Derived.Test.YtmmmaadhbmgciaaMv
set_option linter.unusedVariables false
set_option linter.unusedSimpArgs false
set_option maxRecDepth 100000
namespace Go.Proofs.Ytmmmaadhbmgciaa.MNm
open Go Go.RowKit Go.Proofs.Ytmmmaadhbmgciaa.Vk Go.Proofs.Ytmmmaadhbmgciaa.Str Go.Proofs.Ytmmmaadhbmgciaa.Ln Go.Proofs.Ytmmmaadhbmgciaa.Cl Go.Proofs.Ytmmmaadhbmgciaa.Ml Go.Proofs.Ytmmmaadhbmgciaa.Mk
attribute [local go_sem] Oper.semAt_some

theorem u8_of {l : Int} (h : (Lit.int .u8 l).wf = true) : 0 ≤ l ∧ l ≤ 255 := by simpa [Lit.wf, show IntKind.u8.min = 0 from rfl, show IntKind.u8.max = 255 from rfl] using h
/-- What stands after k names. -/
def st (zs : List Int) : Nat → ML
  | 0 => []
  | k + 1 => setL (st zs k) (zs.getD k 0).toNat ((k : Int), 0)
theorem st_srt (zs : List Int) : ∀ k, Srt (st zs k)
  | 0 => List.Pairwise.nil
  | k + 1 => srt_set (st_srt zs k) _ _
theorem st_rng (zs : List Int) : ∀ k, Rng (st zs k)
  | 0 => fun _ h => by cases h
  | k + 1 => rng_set (st_rng zs k) _ _
theorem lk_out {L : ML} (hr : Rng L) {c : Nat} (h : nam c = false) : lk L c = none := look_none fun x hx e => by
  have h1 := hr x hx
  rw [e] at h1
  unfold nam at h
  rw [decide_eq_true h1] at h
  cases h
theorem lk_set {L : ML} (hr : Rng L) (c : Nat) (p : P2) : lk (setL L c p) c = if nam c = true then some p else none := by
  cases h : nam c with
  | true => rw [setL_yes h, look_ins, if_pos rfl]; rfl
  | false => rw [setL_no h, lk_out hr h]; rfl

set_option maxHeartbeats 4000000 in
theorem walk (sa : Option Addr) (N cp : Nat) (zs : List Int) (w : World) (hz : SrcV w 1 (.slice sa N cp) N (zs.map (.int .u8))) (wz : ∀ z ∈ zs, (Lit.int .u8 z).wf = true) :
    Calls Try.prog 7 #[.slice sa N cp] w fun e w' => e = .returned (.bool true) ∧ Below w.heap.size w w' := by
  have hk := known_any w
  have hzl : zs.length = N := by have := hz.1; simpa using this
  have HZ := Lib.hid (And.intro hz (And.intro wz hzl))
  have hN63 : N ≤ 9223372036854775807 := hz.2.2.1
  clear hz wz hzl
  go_enter Try.func7, Try.ntmps7
  go_wp2_with fail
  refine hk.mono ?_
  rintro e w1 ⟨rfl, hb1⟩
  have HB := Lib.hid hb1
  clear hk hb1
  by_cases h60 : 60 < N
  · go_wp2
    go_ret
    exact ⟨rfl, HB.out⟩
  go_wp2_with fail
  refine (new_any _).mono ?_
  rintro e w2 ⟨rfl, hm2, hb2⟩
  have HB2 := Lib.hid (And.intro (below_on HB.out hb2) hb2.size)
  have HM2 := Lib.hid hm2
  clear hb2 hm2
  obtain ⟨b, hbq⟩ : ∃ b, b = w1.heap.size := ⟨_, rfl⟩
  rw [← hbq] at HM2 ⊢
  have HBQ := Lib.hid (And.intro hbq HB.out.size)
  clear hbq
  go_wp2_with fail
  obtain ⟨w3, hw3⟩ : ∃ w3, w3 = w2.alloc (.cells #[.slice none 0 0, .slice none 0 0] RT) := ⟨_, rfl⟩
  have hb3 : Below w2.heap.size w2 w3 := by rw [hw3]; exact (Below.refl _ _).alloc (Nat.le_refl _) _
  have hrf : Rfs w3 w2.heap.size w2.heap.size [] := by rw [hw3]; exact Rfs.new w2
  show Code.wp _ _ _ _ (w2.alloc (.cells #[.slice none 0 0, .slice none 0 0] RT))
  rw [← hw3]
  have HBO : Hid (Bo w (b + 1) b w2.heap.size [] [] w3) := ⟨HM2.out.below hb3, hrf.mono HB2.out.1.size, below_on HB2.out.1 hb3, by have := HBQ.out.1; have := HBQ.out.2; omega⟩
  obtain ⟨r, hrq⟩ : ∃ r, r = w2.heap.size := ⟨_, rfl⟩
  rw [← hrq] at HBO ⊢
  clear hw3 hb3 hrf hrq
  go_loopw [5] (fun i wr => ∃ k : Nat, k ≤ N ∧ i = .int .i64 k ∧ Hid (Bo w (b + 1) b r (st zs k) (st zs k) wr)) (fun i _ => N - (RowKit.intOf i).toNat)
  case atStart => exact ⟨0, Nat.zero_le _, rfl, HBO⟩
  case round =>
    obtain ⟨k, hkN, rfl, HW⟩ := hrel
    by_cases hk : k < N
    · have hkl : k < zs.length := by have := HZ.out.2.2; omega
      obtain ⟨za, zo, hza, hc, hcp, _⟩ := HZ.out.1.at (j := k) (u := .int .u8 zs[k]) (by simp [hkl])
      subst hza
      have hzr := u8_of (HZ.out.2.1 zs[k] (List.getElem_mem hkl))
      obtain ⟨c, hcq⟩ : ∃ c, c = zs[k].toNat := ⟨_, rfl⟩
      have hcc : zs[k] = (c : Int) := by omega
      have hc256 : c < 256 := by omega
      rw [hcc] at hc
      have hst : setL (st zs k) c ((k : Int), 0) = st zs (k + 1) := by
        show _ = setL (st zs k) (zs.getD k 0).toNat ((k : Int), 0)
        rw [List.getD_eq_getElem?_getD, List.getElem?_eq_getElem hkl, hcq]
        rfl
      have HC := Lib.hid (fun W (hb : Below w.heap.size w W) => cell_later hb hc)
      have hc := HC.out wr HW.out.bel
      clear hzr hcq hcc
      by_cases q1 : c < 96
      · have e1 : ¬ (97 : Int) ≤ (c : Int) := by omega
        have e2 : ((c : Int) == 96) = false := by rw [beq_eq_false_iff_ne]; omega
        have hq : nam c = false := by unfold nam; exact decide_eq_false (by omega)
        have hs1 := fun W (h : Bo w (b + 1) b r (st zs k) (st zs k) W) => h.set hc256 (st_srt zs k) (st_rng zs k) (k : Int) 0
        have hs2 := fun W (h : Bo w (b + 1) b r (st zs (k + 1)) (st zs k) W) => h.set13 (c := c) (length_rng (st_srt zs k) (st_rng zs k)) (k : Int) 0
        rw [hq, hst] at hs1
        rw [hst] at hs2
        have hlk := lk_set (st_rng zs k) c ((k : Int), 0)
        rw [hst, hq] at hlk
        have hg1 := fun W (h : Bo w (b + 1) b r (st zs (k + 1)) (st zs (k + 1)) W) => h.get hc256
        rw [hlk] at hg1
        simp only [lz, if_true, Option.getD_some, Option.isSome_some, Bool.false_eq_true, if_false, Option.getD_none, Option.isSome_none] at hg1
        clear hlk hq q1
        have HST := Lib.hid hst
        clear hst
        go_wp2_with fail
        refine (hs1 _ HW.out).mono ?_
        rintro e w3 ⟨rfl, hbo3, _⟩
        have hc := HC.out w3 hbo3.bel
        clear hs1
        go_wp2_with fail
        refine (hs2 _ hbo3).mono ?_
        rintro e w4 ⟨rfl, hbo4, _⟩
        have hc := HC.out w4 hbo4.bel
        clear hs2 hbo3
        go_wp2_with fail
        refine (hg1 _ hbo4).mono ?_
        rintro e w5 ⟨rfl, hb5⟩
        have hbo5 := hbo4.below hb5
        have hc := HC.out w5 hbo5.bel
        have HW5 := Lib.hid (hbo5.below ((Below.refl _ w5).alloc (Nat.le_refl _) (.cells #[.int .i64 0, .int .i64 0] 37)))
        clear hg1 hbo4 hbo5 hb5
        go_wp2
        go_roundw
        case rel => exact ⟨k + 1, by omega, by go_num, HW5⟩
        case measure => simp [RowKit.intOf]; omega
      · by_cases q2 : c = 96
        · have e1 : ¬ (97 : Int) ≤ (c : Int) := by omega
          have e2 : ((c : Int) == 96) = true := by rw [beq_iff_eq]; omega
          have hq : nam c = true := by unfold nam; exact decide_eq_true (by omega)
          have hs1 := fun W (h : Bo w (b + 1) b r (st zs k) (st zs k) W) => h.set hc256 (st_srt zs k) (st_rng zs k) (k : Int) 0
          have hs2 := fun W (h : Bo w (b + 1) b r (st zs (k + 1)) (st zs k) W) => h.set13 (c := c) (length_rng (st_srt zs k) (st_rng zs k)) (k : Int) 0
          rw [hq, hst] at hs1
          rw [hst] at hs2
          have hlk := lk_set (st_rng zs k) c ((k : Int), 0)
          rw [hst, hq] at hlk
          have hg1 := fun W (h : Bo w (b + 1) b r (st zs (k + 1)) (st zs (k + 1)) W) => h.get hc256
          rw [hlk] at hg1
          simp only [lz, if_true, Option.getD_some, Option.isSome_some, Bool.false_eq_true, if_false, Option.getD_none, Option.isSome_none] at hg1
          clear hlk hq q1 q2
          have HST := Lib.hid hst
          clear hst
          go_wp2_with fail
          refine (hs1 _ HW.out).mono ?_
          rintro e w3 ⟨rfl, hbo3, _⟩
          have hc := HC.out w3 hbo3.bel
          clear hs1
          go_wp2_with fail
          refine (hs2 _ hbo3).mono ?_
          rintro e w4 ⟨rfl, hbo4, _⟩
          have hc := HC.out w4 hbo4.bel
          clear hs2 hbo3
          go_wp2_with fail
          refine (hg1 _ hbo4).mono ?_
          rintro e w5 ⟨rfl, hb5⟩
          have hbo5 := hbo4.below hb5
          have hc := HC.out w5 hbo5.bel
          have HW5 := Lib.hid (hbo5.below ((Below.refl _ w5).alloc (Nat.le_refl _) (.cells #[.int .i64 (k : Int), .int .i64 0] 37)))
          clear hg1 hbo4 hbo5 hb5
          go_wp2
          go_roundw
          case rel => exact ⟨k + 1, by omega, by go_num, HW5⟩
          case measure => simp [RowKit.intOf]; omega
        · by_cases q3 : c ≤ 122
          · have e1 : (97 : Int) ≤ (c : Int) := by omega
            have e3 : (c : Int) ≤ 122 := by omega
            have hq : nam c = true := by unfold nam; exact decide_eq_true (by omega)
            have hs1 := fun W (h : Bo w (b + 1) b r (st zs k) (st zs k) W) => h.set hc256 (st_srt zs k) (st_rng zs k) (k : Int) 0
            have hs2 := fun W (h : Bo w (b + 1) b r (st zs (k + 1)) (st zs k) W) => h.set13 (c := c) (length_rng (st_srt zs k) (st_rng zs k)) (k : Int) 0
            rw [hq, hst] at hs1
            rw [hst] at hs2
            have hlk := lk_set (st_rng zs k) c ((k : Int), 0)
            rw [hst, hq] at hlk
            have hg1 := fun W (h : Bo w (b + 1) b r (st zs (k + 1)) (st zs (k + 1)) W) => h.get hc256
            rw [hlk] at hg1
            simp only [lz, if_true, Option.getD_some, Option.isSome_some, Bool.false_eq_true, if_false, Option.getD_none, Option.isSome_none] at hg1
            clear hlk hq q1 q2 q3
            have HST := Lib.hid hst
            clear hst
            go_wp2_with fail
            refine (hs1 _ HW.out).mono ?_
            rintro e w3 ⟨rfl, hbo3, _⟩
            have hc := HC.out w3 hbo3.bel
            clear hs1
            go_wp2_with fail
            refine (hs2 _ hbo3).mono ?_
            rintro e w4 ⟨rfl, hbo4, _⟩
            have hc := HC.out w4 hbo4.bel
            clear hs2 hbo3
            go_wp2_with fail
            refine (hg1 _ hbo4).mono ?_
            rintro e w5 ⟨rfl, hb5⟩
            have hbo5 := hbo4.below hb5
            have hc := HC.out w5 hbo5.bel
            have HW5 := Lib.hid (hbo5.below ((Below.refl _ w5).alloc (Nat.le_refl _) (.cells #[.int .i64 (k : Int), .int .i64 0] 37)))
            clear hg1 hbo4 hbo5 hb5
            go_wp2
            go_roundw
            case rel => exact ⟨k + 1, by omega, by go_num, HW5⟩
            case measure => simp [RowKit.intOf]; omega
          · have e1 : (97 : Int) ≤ (c : Int) := by omega
            have e3 : ¬ (c : Int) ≤ 122 := by omega
            have e2 : ((c : Int) == 96) = false := by rw [beq_eq_false_iff_ne]; omega
            have hq : nam c = false := by unfold nam; exact decide_eq_false (by omega)
            have hs1 := fun W (h : Bo w (b + 1) b r (st zs k) (st zs k) W) => h.set hc256 (st_srt zs k) (st_rng zs k) (k : Int) 0
            have hs2 := fun W (h : Bo w (b + 1) b r (st zs (k + 1)) (st zs k) W) => h.set13 (c := c) (length_rng (st_srt zs k) (st_rng zs k)) (k : Int) 0
            rw [hq, hst] at hs1
            rw [hst] at hs2
            have hlk := lk_set (st_rng zs k) c ((k : Int), 0)
            rw [hst, hq] at hlk
            have hg1 := fun W (h : Bo w (b + 1) b r (st zs (k + 1)) (st zs (k + 1)) W) => h.get hc256
            rw [hlk] at hg1
            simp only [lz, if_true, Option.getD_some, Option.isSome_some, Bool.false_eq_true, if_false, Option.getD_none, Option.isSome_none] at hg1
            clear hlk hq q1 q2 q3
            have HST := Lib.hid hst
            clear hst
            go_wp2_with fail
            refine (hs1 _ HW.out).mono ?_
            rintro e w3 ⟨rfl, hbo3, _⟩
            have hc := HC.out w3 hbo3.bel
            clear hs1
            go_wp2_with fail
            refine (hs2 _ hbo3).mono ?_
            rintro e w4 ⟨rfl, hbo4, _⟩
            have hc := HC.out w4 hbo4.bel
            clear hs2 hbo3
            go_wp2_with fail
            refine (hg1 _ hbo4).mono ?_
            rintro e w5 ⟨rfl, hb5⟩
            have hbo5 := hbo4.below hb5
            have hc := HC.out w5 hbo5.bel
            have HW5 := Lib.hid (hbo5.below ((Below.refl _ w5).alloc (Nat.le_refl _) (.cells #[.int .i64 0, .int .i64 0] 37)))
            clear hg1 hbo4 hbo5 hb5
            go_wp2
            go_roundw
            case rel => exact ⟨k + 1, by omega, by go_num, HW5⟩
            case measure => simp [RowKit.intOf]; omega
    · obtain rfl : k = N := by omega
      have hnm := names_any (b + 1) b (st zs k) wr HW.out.ms (st_srt zs k) (st_rng zs k)
      go_wp2_with fail
      refine hnm.mono ?_
      rintro e w4 ⟨na, nc, rfl, hsrc, _, hb4⟩
      have HB4 := Lib.hid (HW.out.below hb4)
      have HS4 := Lib.hid hsrc
      clear hnm hb4
      obtain ⟨L, hL⟩ : ∃ L, L = st zs k := ⟨_, rfl⟩
      have HLS := Lib.hid (And.intro (st_srt zs k) (st_rng zs k))
      rw [← hL] at HB4 HS4 HLS ⊢
      clear hL
      obtain ⟨M, hM⟩ : ∃ M, M = L.length := ⟨_, rfl⟩
      rw [← hM] at HS4 ⊢
      have HM := Lib.hid hM
      have hM27 : M ≤ 27 := by rw [hM]; exact length_rng HLS.out.1 HLS.out.2
      clear hM HW
      go_wp2
      go_loopw [10] (fun i wr => ∃ j : Nat, 1 ≤ j ∧ j ≤ 28 ∧ i = .int .i64 j ∧ Hid (Below w4.heap.size w4 wr)) (fun i _ => 28 - (RowKit.intOf i).toNat)
      case atStart => exact ⟨1, Nat.le_refl _, by omega, rfl, Below.refl _ _⟩
      case round =>
        obtain ⟨j, hj1, hj2, rfl, D⟩ := hrel
        by_cases hj : j < M
        · obtain ⟨q, hq⟩ : ∃ q, q = j - 1 := ⟨_, rfl⟩
          have hw : IntKind.i64.wrap ((j : Int) - 1) = (q : Int) := by rw [IntKind.wrap_i64]; omega
          have hqM : q < M := by omega
          have hqL : q < L.length := by have := HM.out; omega
          have hjL : j < L.length := by have := HM.out; omega
          obtain ⟨g, og, hng, hc1, hcap, _⟩ := HS4.out.at (j := q) (u := .int .u8 (L[q].1 : Int)) (by simp [nbs, nms, hqL])
          obtain ⟨g2, og2, hng2, hc2, _, _⟩ := HS4.out.at (j := j) (u := .int .u8 (L[j].1 : Int)) (by simp [nbs, nms, hjL])
          rw [hng] at hng2
          simp only [Option.some.injEq, Addr.mk.injEq, and_true] at hng2
          obtain ⟨rfl, rfl⟩ := hng2
          subst hng
          have hlt := srt_lt HLS.out.1 (show q < j by omega) hjL
          obtain ⟨c1, h1⟩ : ∃ c1, c1 = L[q].1 := ⟨_, rfl⟩
          obtain ⟨c2, h2⟩ : ∃ c2, c2 = L[j].1 := ⟨_, rfl⟩
          rw [← h1] at hc1 hlt
          rw [← h2] at hc2 hlt
          have e1 : ¬ (c2 : Int) ≤ (c1 : Int) := by omega
          have hc1 := cell_later D.out hc1
          have hc2 := cell_later D.out hc2
          have F_1 := fun (C : World → Prop) (hC : Grows wr C) (z : In C) => hC.cell hc1 z
          have F_2 := fun (C : World → Prop) (hC : Grows wr C) (z : In C) => hC.cell hc2 z
          clear h1 h2 hlt hq hqL hjL hc1 hc2
          go_wp2_with fail
          refine wp_region_seg [0, 1, 2, 3, 4, 5, 6, 7, 8, 9] [] (by kernel_rfl) (by kernel_rfl) 109 rfl (by kernel_rfl) ?_
          simp only [List.map_cons, List.map_nil, opOf_succ, opOf_zero]
          apply Exists.intro
          refine ⟨fun C hC => ?_, ?_⟩
          · haveI hI := hC.one
            have f_1 := F_1 C hC
            have f_2 := F_2 C hC
            repeat (go_big_quiet_step (fail))
            exact wpQuiet_nil rfl
          clear F_1 F_2
          refine wpPath_end fun w5 hb5 => ?_
          have D5 := Lib.hid (below_on D.out hb5)
          clear hb5 D
          go_wp2
          go_roundw
          case rel => exact ⟨j + 1, by omega, by omega, by go_num, D5⟩
          case measure => simp [RowKit.intOf]; omega
        · have hbo := HB4.out.below D.out
          obtain ⟨ra, rac, rb, rbc, k1, k2, k3, k4⟩ := hbo.rf
          rw [← HM.out] at k1 k3
          have hr0 : wr.cell? ⟨r, 0, none⟩ = some (.slice ra M rac) := (cell_of_row wr _ 0 _ _ _ k1).trans (by simp)
          have F_r := fun (C : World → Prop) (hC : Grows wr C) (z : In C) => hC.cell hr0 z
          have F_1 := fun (C : World → Prop) (hC : Grows wr C) (z : In C) => conv_names (SrcV.below HS4.out (below_on D.out (hC.below _ z.isIn)))
          have F_2 := fun (C : World → Prop) (hC : Grows wr C) (z : In C) => conv_names (SrcV.below (SrcV.ofOwn k3 (nbs_one _)) (hC.below _ z.isIn))
          clear hr0 k1 k2 k3 k4 rb rbc
          go_wp2_with fail
          refine wp_region_seg [0, 1, 2, 3, 4, 5, 6, 7, 8] [] (by kernel_rfl) (by kernel_rfl) 109 rfl (by kernel_rfl) ?_
          simp only [List.map_cons, List.map_nil, opOf_succ, opOf_zero]
          apply Exists.intro
          refine ⟨fun C hC => ?_, ?_⟩
          · haveI hI := hC.one
            have f_r := F_r C hC
            have f_1 := F_1 C hC
            have f_2 := F_2 C hC
            repeat (go_big_quiet_step (fail))
            exact wpQuiet_nil rfl
          clear F_r F_1 F_2
          refine wpPath_end fun w5 hb5 => ?_
          have HE := Lib.hid (hbo.bel.trans (hb5.mono hbo.bel.size))
          clear hbo hb5
          go_wp2
          go_ret
          exact ⟨rfl, HE.out⟩
end Go.Proofs.Ytmmmaadhbmgciaa.MNm
