/-
  The package's Adjust.
-/
import Derived.Test.YtmmmaadhbmgciaaMn
set_option linter.unusedVariables false
set_option linter.unusedSimpArgs false
set_option maxRecDepth 100000
namespace Go.Proofs.Ytmmmaadhbmgciaa.Mk
open Go Go.RowKit Go.Proofs.Ytmmmaadhbmgciaa.Vk Go.Proofs.Ytmmmaadhbmgciaa.Str Go.Proofs.Ytmmmaadhbmgciaa.Ln Go.Proofs.Ytmmmaadhbmgciaa.Cl Go.Proofs.Ytmmmaadhbmgciaa.Ml
attribute [local go_sem] Oper.semAt_some

theorem mid_len (L : ML) (a o n : Int) (k : Nat) : (midL L a o n k).length ≤ L.length := by
  unfold midL
  rw [List.length_append, List.length_drop]
  have h1 : (adj (L.take k) a o n).length ≤ (L.take k).length := List.length_filterMap_le _ _
  rw [List.length_take] at h1
  omega
theorem adjust_any (m b : Nat) (L : ML) (a o n : Int) (w : World) (h : Mks w m b L) (hs : Srt L) (hr : Rng L) (hb : Bnd 4611686018427387904 L) : Calls Try.prog 14 #[.pointer (some ⟨m, 0, none⟩), .int .i64 a, .int .i64 o, .int .i64 n] w fun e w' =>
    e = .returned (.tuple #[]) ∧ Mks w' m b (adj L a o n) ∧ Fr (fun j => j = b) w w' := by
  have hnm := names_any m b L w h hs hr
  have hl27 := length_rng hs hr
  go_enter Try.func14, Try.ntmps14
  go_wp2_with (go_at_call 18; refine hnm.mono ?_; rintro e w1 ⟨ra, rc, rfl, hrow, hrn, hb1⟩)
  clear hnm
  have H1 := Lib.hid (And.intro (h.below hb1) (Fr.ofBelow hb1 (fun j => j = b)))
  have HROW := Lib.hid (And.intro hrow (show ∀ k, blk (.slice ra L.length rc) = some k → ¬ k = b from fun k hk e => by have := hrn k hk; have := h.blt; omega))
  clear hrow hrn hb1 h
  obtain ⟨N, hN⟩ : ∃ N, N = L.length := ⟨_, rfl⟩
  rw [← hN] at HROW hl27 ⊢
  have HN := Lib.hid hN
  clear hN
  go_loopw [16] (fun i wr => ∃ k : Nat, k ≤ N ∧ i = .int .i64 k ∧ Hid (Mks wr m b (midL L a o n k) ∧ Fr (fun j => j = b) w1 wr)) (fun i _ => N - (RowKit.intOf i).toNat)
  case atStart => exact ⟨0, Nat.zero_le _, rfl, ⟨H1.out.1, Fr.refl _ _⟩⟩
  case round =>
    obtain ⟨k, hk, rfl, HW⟩ := hrel
    by_cases hkN : k < N
    · have hkL : k < L.length := by have := HN.out; omega
      obtain ⟨c, hc⟩ : ∃ c, c = L[k].1 := ⟨_, rfl⟩
      obtain ⟨x, hx⟩ : ∃ x, x = L[k].2.1 := ⟨_, rfl⟩
      obtain ⟨y, hy⟩ : ∃ y, y = L[k].2.2 := ⟨_, rfl⟩
      have hc1 := hr L[k] (List.getElem_mem _)
      have hx1 := hb L[k] (List.getElem_mem _)
      rw [← hc] at hc1
      rw [← hx] at hx1
      have hc256 : c < 256 := by omega
      have hlk : lk (midL L a o n k) c = some (x, y) := by rw [hc, hx, hy]; exact look_mid hs hkL
      have hlen : (midL L a o n k).length < 1000 := by have := mid_len L a o n k; have := HN.out; omega
      obtain ⟨rb, ro, hra, hcr, hrc, _⟩ := ((HROW.out.1.fr HW.out.2 (fun _ => HROW.out.2)).at (j := k) (u := .int .u8 (c : Int)) (by rw [hc]; simp [nbs, nms, hkL]))
      subst hra
      have hcm := HW.out.1.cell
      have hlook := HW.out.1.2.look hc256
      rw [hlk] at hlook
      simp only [lz, Option.getD_some] at hlook
      obtain ⟨w2, hw2⟩ : ∃ w2, w2 = wr.alloc (.cells #[.int .i64 x, .int .i64 y] 37) := ⟨_, rfl⟩
      have hb2 : Below wr.heap.size wr w2 := by rw [hw2]; exact (Below.refl _ _).alloc (Nat.le_refl _) _
      have hp2 : PosAt w2 wr.heap.size x y := by rw [hw2]; exact PosAt.new wr x y
      have HK2 := Lib.hid (And.intro (HW.out.1.below hb2) (HW.out.2.trans (Fr.ofBelow hb2 _)))
      have hsh := fun W => shift_any x a o n W hx1
      have hcm2 := HK2.out.1.cell
      cases hg : shf x a o n with
      | none =>
        rw [shV_none hg] at hsh
        rw [hx] at hg
        obtain ⟨w3, hd, hm3, hf3⟩ := HK2.out.1.2.del (L' := midL L a o n (k + 1)) hc256 (fun d => by rw [hc]; exact look_gone hs hkL hg d) (by rw [hlk]; exact length_gone hkL hg) 0
        have HK3 := Lib.hid (And.intro (HK2.out.1.turn hf3 hm3) (HK2.out.2.trans hf3))
        have HX := Lib.hid (And.intro hc (And.intro hx hy))
        have HG := Lib.hid hg
        have q0 := hp2.c0
        have q1 := hp2.c1
        clear hm3 hf3 hg hc hx hy hlk hlen hx1 hc1 hb2 hp2
        subst hw2
        go_wp2_with (go_at_call 9; refine (hsh _).mono ?_; rintro e w' ⟨rfl, rfl⟩)
        go_roundw
        case rel => exact ⟨k + 1, by omega, by go_num, HK3⟩
        case measure => simp [RowKit.intOf]; omega
      | some l =>
        rw [shV_some hg] at hsh
        rw [hx] at hg
        have HX := Lib.hid (And.intro hc (And.intro hx hy))
        have HG := Lib.hid hg
        have HLK := Lib.hid (And.intro hlk hlen)
        have HP2 := Lib.hid hp2
        have q0 := hp2.c0
        have q1 := hp2.c1
        clear hg hc hx hy hlk hlen hx1 hc1 hb2 hp2
        subst hw2
        go_wp2_with (go_at_call 9; refine (hsh _).mono ?_; rintro e w' ⟨rfl, rfl⟩)
        have F_m := fun (C : World → Prop) (hC : Grows (wr.alloc (.cells #[.int .i64 x, .int .i64 y] 37)) C) (z : In C) => hC.cell hcm2 z
        have F_1 := fun (C : World → Prop) (hC : Grows (wr.alloc (.cells #[.int .i64 x, .int .i64 y] 37)) C) (z : In C) => hC.cell q1 z
        refine wp_region_seg [0, 1, 2, 3, 4, 5, 6, 7, 8] [(9, 3)] (by kernel_rfl) (by kernel_rfl) 52 rfl (by kernel_rfl) ?_
        simp only [List.map_cons, List.map_nil, opOf_succ, opOf_zero]
        apply Exists.intro
        refine ⟨fun C hC => ?_, ?_⟩
        · haveI hI := hC.one
          have f_m := F_m C hC
          have f_1 := F_1 C hC
          repeat (go_big_quiet_step (fail))
          exact wpQuiet_nil rfl
        clear F_m F_1 q0 q1 hcm hcm2 hcr hlook
        refine wpPath_store rfl fun w3 hb3 => ?_
        have h3 := HK2.out.1.below hb3
        obtain ⟨w4, hu, hm4, hf4⟩ := h3.2.put (L' := midL L a o n (k + 1)) HLK.out.2 hc256 (l, y) (fun d => by rw [HX.out.1, HX.out.2.2]; exact look_moved hs hkL HG.out d)
          (by rw [HLK.out.1]; exact length_moved hkL HG.out)
        refine ⟨w4, rfl, by simp only [opOf_succ, opOf_zero]; go_simp, ?_⟩
        have h4 := h3.turn hf4 hm4
        have hf := (HK2.out.2.trans (Fr.ofBelow hb3 _)).trans hf4
        simp only [opOf_succ, opOf_zero, Act.put, List.setIfInBounds_toArray, List.set_cons_zero, List.set_cons_succ]
        refine wpPath_end fun w5 hb5 => ?_
        have H5 := Lib.hid (And.intro (h4.below hb5) (hf.trans (Fr.ofBelow hb5 _)))
        clear hu hm4 hf4 h4 h3 hb3 hb5 hf
        go_wp2
        go_roundw
        case rel => exact ⟨k + 1, by omega, by go_num, H5⟩
        case measure => simp [RowKit.intOf]; omega
    · obtain rfl : k = N := by omega
      have HF := HW.out
      rw [show midL L a o n k = adj L a o n by rw [HN.out]; exact mid_end L a o n] at HF
      have HE := Lib.hid (And.intro HF.1 (H1.out.2.trans HF.2))
      clear HF
      go_wp2
      go_end0
      exact ⟨rfl, HE.out.1, HE.out.2⟩
end Go.Proofs.Ytmmmaadhbmgciaa.Mk
