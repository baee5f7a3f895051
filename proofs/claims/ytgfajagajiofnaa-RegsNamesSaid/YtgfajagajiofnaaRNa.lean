/-
  The law RegsNames, walked.
-/
import Derived.Test.YtgfajagajiofnaaRo
import Derived.Test.YtgfajagajiofnaaRs
import Derived.Deep.CutRange
import Derived.Deep.CutBlock
set_option linter.unusedVariables false
set_option linter.unusedSimpArgs false
set_option maxRecDepth 100000
namespace Go.Proofs.Ytgfajagajiofnaa.RNa
open Go Go.RowKit Go.Proofs.Ytgfajagajiofnaa.Vk Go.Proofs.Ytgfajagajiofnaa.Str Go.Proofs.Ytgfajagajiofnaa.Ln Go.Proofs.Ytgfajagajiofnaa.Cl Go.Proofs.Ytgfajagajiofnaa.Rl Go.Proofs.Ytgfajagajiofnaa.Rg
attribute [local go_sem] Oper.semAt_some

theorem names_out (c : Nat) (g : G) (hc : c < 256) (hg : tz g.2 ≤ 4096) (hk : g.1 = 0) (hl : g.2.length = 1) : ∃ (E1 E2 : Int) (o : Option G),
    ((put [] c g).1 = E1 ∧ lk (put [] c g).2 34 = none ∧ (yank [] c g).1 = E2 ∧ lk (yank [] c g).2 34 = o ∧ (cut [] c g).1 = E2 ∧ lk (cut [] c g).2 34 = o) ∧
    (((97 ≤ c ∧ c ≤ 122) ∧ E1 = 0 ∧ E2 = 0 ∧ o = some g) ∨ ((65 ≤ c ∧ c ≤ 90) ∧ E1 = 0 ∧ E2 = 0 ∧ o = some g) ∨ (c = 0 ∧ E1 = 23 ∧ E2 = 0 ∧ o = some g) ∨ (c = 34 ∧ E1 = 23 ∧ E2 = 0 ∧ o = some g) ∨ (c = 95 ∧ E1 = 23 ∧ E2 = 0 ∧ o = none) ∨
      ((c < 65 ∧ c ≠ 0 ∧ c ≠ 34) ∧ E1 = 23 ∧ E2 = 23 ∧ o = none) ∨ ((90 < c ∧ c < 97 ∧ c ≠ 95) ∧ E1 = 23 ∧ E2 = 23 ∧ o = none) ∨ (122 < c ∧ E1 = 23 ∧ E2 = 23 ∧ o = none)) := by
  have hre : reg c = if c = 0 then 34 else if 65 ≤ c ∧ c ≤ 90 then c + 32 else c := rfl
  have hpr : pr [] c g = g := by unfold pr; split <;> rfl
  have small : 97 ≤ reg c ∧ reg c ≤ 122 → c ≠ 95 → (put [] c g).1 = 0 ∧ lk (put [] c g).2 34 = none ∧ (yank [] c g).1 = 0 ∧ lk (yank [] c g).2 34 = some g ∧ (cut [] c g).1 = 0 ∧ lk (cut [] c g).2 34 = some g := fun h h95 => by
    have hp : put [] c g = (0, ins [] (reg c) g) := by unfold put; rw [if_pos h, hpr, if_pos hg]
    have hy : yank [] c g = (0, ins (ins [] (reg c) g) 34 g) := by
      unfold yank
      rw [if_neg (by omega), if_neg h95, hp]
      show (if (0 : Int) = 0 then _ else _) = _
      rw [if_pos rfl, hand_some (by rw [look_ins, if_pos rfl])]
    have hq : cut [] c g = yank [] c g := by unfold cut; rw [if_neg (by omega)]
    rw [hq, hy, hp]
    exact ⟨rfl, by show lk (ins [] (reg c) g) 34 = none; rw [look_ins, if_neg (by omega)]; rfl, rfl, by show lk (ins _ 34 g) 34 = _; rw [look_ins, if_pos rfl], rfl, by show lk (ins _ 34 g) 34 = _; rw [look_ins, if_pos rfl]⟩
  have noput : ¬ (97 ≤ reg c ∧ reg c ≤ 122) → put [] c g = (23, []) := fun h => by unfold put; rw [if_neg h]
  have plain : reg c = 34 → (put [] c g).1 = 23 ∧ lk (put [] c g).2 34 = none ∧ (yank [] c g).1 = 0 ∧ lk (yank [] c g).2 34 = some g ∧ (cut [] c g).1 = 0 ∧ lk (cut [] c g).2 34 = some g := fun h => by
    rw [noput (by omega)]
    have hy : yank [] c g = (0, ins (ins [] 34 g) 48 g) := by unfold yank; rw [if_pos h, if_pos hg]
    have hq : cut [] c g = (0, ins (ins [] 34 g) 45 g) := by unfold cut; rw [if_pos h, if_pos hg, if_pos ⟨by omega, by omega⟩]
    rw [hq, hy]
    exact ⟨rfl, rfl, rfl, by show lk (ins _ 48 g) 34 = _; rw [look_ins, if_neg (by omega), look_ins, if_pos rfl], rfl, by show lk (ins _ 45 g) 34 = _; rw [look_ins, if_neg (by omega), look_ins, if_pos rfl]⟩
  have other : ¬ (97 ≤ reg c ∧ reg c ≤ 122) → reg c ≠ 34 → c ≠ 95 → (put [] c g).1 = 23 ∧ lk (put [] c g).2 34 = none ∧ (yank [] c g).1 = 23 ∧ lk (yank [] c g).2 34 = none ∧ (cut [] c g).1 = 23 ∧ lk (cut [] c g).2 34 = none := fun h h2 h3 => by
    have hy : yank [] c g = (23, []) := by
      unfold yank
      rw [if_neg h2, if_neg h3, noput h]
      show (if (23 : Int) = 0 then _ else _) = _
      rw [if_neg (by decide)]
    have hq : cut [] c g = yank [] c g := by unfold cut; rw [if_neg h2]
    rw [hq, hy, noput h]
    exact ⟨rfl, rfl, rfl, rfl, rfl, rfl⟩
  by_cases k1 : 97 ≤ c ∧ c ≤ 122
  · rw [if_neg (by omega), if_neg (by omega)] at hre
    exact ⟨0, 0, some g, small (by omega) (by omega), .inl ⟨k1, rfl, rfl, rfl⟩⟩
  by_cases k2 : 65 ≤ c ∧ c ≤ 90
  · rw [if_neg (by omega), if_pos k2] at hre
    exact ⟨0, 0, some g, small (by omega) (by omega), .inr (.inl ⟨k2, rfl, rfl, rfl⟩)⟩
  by_cases k3 : c = 0
  · exact ⟨23, 0, some g, plain (by rw [hre, if_pos k3]), .inr (.inr (.inl ⟨k3, rfl, rfl, rfl⟩))⟩
  rw [if_neg k3, if_neg k2] at hre
  by_cases k4 : c = 34
  · exact ⟨23, 0, some g, plain (by omega), .inr (.inr (.inr (.inl ⟨k4, rfl, rfl, rfl⟩)))⟩
  by_cases k5 : c = 95
  · refine ⟨23, 0, none, ?_, .inr (.inr (.inr (.inr (.inl ⟨k5, rfl, rfl, rfl⟩))))⟩
    have hy : yank [] c g = (0, []) := by unfold yank; rw [if_neg (by omega), if_pos k5]
    have hq : cut [] c g = yank [] c g := by unfold cut; rw [if_neg (by omega)]
    rw [hq, hy, noput (by omega)]
    exact ⟨rfl, rfl, rfl, rfl, rfl, rfl⟩
  refine ⟨23, 23, none, other (by omega) (by omega) k5, ?_⟩
  by_cases k6 : c < 65
  · exact .inr (.inr (.inr (.inr (.inr (.inl ⟨⟨k6, k3, k4⟩, rfl, rfl, rfl⟩)))))
  by_cases k7 : c < 97
  · exact .inr (.inr (.inr (.inr (.inr (.inr (.inl ⟨⟨by omega, k7, k5⟩, rfl, rfl, rfl⟩))))))
  exact .inr (.inr (.inr (.inr (.inr (.inr (.inr ⟨by omega, rfl, rfl, rfl⟩))))))
theorem u8_of {l : Int} (h : (Lit.int .u8 l).wf = true) : 0 ≤ l ∧ l ≤ 255 := by simpa [Lit.wf, show IntKind.u8.min = 0 from rfl, show IntKind.u8.max = 255 from rfl] using h

set_option maxHeartbeats 4000000 in
theorem walk (nm : Int) (s : ByteArray) (w : World) (wn : (Lit.int .u8 nm).wf = true) (hs : s.size ≤ 140737488355328) :
    Calls Try.prog 7 #[.int .u8 nm, .string s] w fun e w' => e = .returned (.bool true) ∧ Below w.heap.size w w' := by
  have hk := known_any w
  have hnm := u8_of wn
  obtain ⟨c, hc⟩ : ∃ c, c = nm.toNat := ⟨_, rfl⟩
  obtain rfl : nm = (c : Int) := by omega
  have hc256 : c < 256 := by omega
  clear hnm hc wn
  go_enter Try.func7, Try.ntmps7
  go_wp2_with fail
  refine hk.mono ?_
  rintro e w1 ⟨rfl, hb1⟩
  have HB := Lib.hid hb1
  clear hk hb1
  by_cases h100 : 100 < s.size
  · go_wp2
    go_ret
    exact ⟨rfl, HB.out⟩
  have HL := Lib.hid (show s.size ≤ 100 by omega)
  go_upto_region 6 with fail
  obtain ⟨x1, x2, x3, x4⟩ := one_reg w1 w1.heap.size 0 s
  obtain ⟨V, hV⟩ : ∃ V, V = rg1 w1 0 s := ⟨_, rfl⟩
  rw [← hV] at x1 x2 x3 x4
  have hV' : V = (w1.alloc (.cells #[.string s] 9)).alloc (.cells #[.int .i64 0, .slice (some ⟨w1.heap.size, 0, none⟩) 1 1] 33) := hV
  rw [← hV']
  obtain ⟨B, hB⟩ : ∃ B, B = w1.heap.size := ⟨_, rfl⟩
  rw [← hB] at x2 x3 x4
  rw [← hB]
  obtain ⟨ar, har⟩ : ∃ ar : Option Addr, ar = some ⟨B, 0, none⟩ := ⟨_, rfl⟩
  obtain ⟨gr, hgr⟩ : ∃ gr, gr = B + 1 := ⟨_, rfl⟩
  rw [← har] at x2 x3
  rw [← hgr] at x2
  rw [← hgr, ← har]
  have HS0 := Lib.hid (show B ≤ V.heap.size by omega)
  have HW := Lib.hid (And.intro (below_on HB.out x1) (And.intro x2 (And.intro x3 (show w.heap.size ≤ B by rw [hB]; exact HB.out.size))))
  clear hV hV' hB har hgr x1 x2 x3 x4 h100
  go_wp2_with fail
  refine (new_any V B (by exact HS0.out)).mono ?_
  rintro e n1 ⟨rfl, hm1, hb1⟩
  obtain ⟨b1, hbq1⟩ : ∃ b1, b1 = V.heap.size := ⟨_, rfl⟩
  rw [← hbq1] at hm1
  rw [← hbq1]
  have HS1 := Lib.hid (And.intro (show b1 < n1.heap.size from hm1.blt) (And.intro (show V.heap.size ≤ b1 from Nat.le_of_eq hbq1.symm) (show B ≤ n1.heap.size by have := HS0.out; have := hb1.size; omega)))
  have HM1 := Lib.hid (And.intro hm1 hb1)
  clear hm1 hb1 hbq1
  go_wp2_with fail
  refine (new_any n1 B (by have := HS1.out; omega)).mono ?_
  rintro e n2 ⟨rfl, hm2, hb2⟩
  obtain ⟨b2, hbq2⟩ : ∃ b2, b2 = n1.heap.size := ⟨_, rfl⟩
  rw [← hbq2] at hm2
  rw [← hbq2]
  have HS2 := Lib.hid (And.intro (show b2 < n2.heap.size from hm2.blt) (And.intro (show n1.heap.size ≤ b2 from Nat.le_of_eq hbq2.symm) (show B ≤ n2.heap.size by have := HS1.out; have := hb2.size; omega)))
  have HM2 := Lib.hid (And.intro hm2 hb2)
  clear hm2 hb2 hbq2
  go_wp2_with fail
  refine (new_any n2 B (by have := HS2.out; omega)).mono ?_
  rintro e n3 ⟨rfl, hm3, hb3⟩
  obtain ⟨b3, hbq3⟩ : ∃ b3, b3 = n2.heap.size := ⟨_, rfl⟩
  rw [← hbq3] at hm3
  rw [← hbq3]
  have HS3 := Lib.hid (And.intro (show b3 < n3.heap.size from hm3.blt) (And.intro (show n2.heap.size ≤ b3 from Nat.le_of_eq hbq3.symm) (show B ≤ n3.heap.size by have := HS2.out; have := hb3.size; omega)))
  have HM3 := Lib.hid (And.intro hm3 hb3)
  clear hm3 hb3 hbq3
  go_upto_region 7 with fail
  have hb12 := below_on HM2.out.2 HM3.out.2
  have hb02 := below_on HM1.out.2 hb12
  have hf1 := HM1.out.1.below hb12
  have hf2 := HM2.out.1.below HM3.out.2
  have hf3 := HM3.out.1
  have hrg := HW.out.2.1.below hb02 HW.out.2.1.lt
  have hel := HW.out.2.2.1.below hb02
  have hgt : tz ((0 : Int), [s]).2 ≤ 101 := by show tz [s] ≤ 101; rw [tz_cons, tz_nil]; have := HL.out; omega
  have hd1 : b1 + 1 < b2 ∧ b2 + 1 < b3 := by
    have h1 := HS1.out
    have h2 := HS2.out
    have h3 := HS3.out
    have h4 := HM1.out.1.lt
    have h5 := HM2.out.1.lt
    omega
  have hBn : B ≤ n3.heap.size := HS3.out.2.2
  have hn1 := fun e => hf1.reg_ne hrg e
  have hn2 := fun e => hf2.reg_ne hrg e
  have hn3 := fun e => hf3.reg_ne hrg e
  have hnr : ¬ (gr = b1 ∨ gr = b2 ∨ gr = b3) := fun e => by
    rcases e with e | e | e
    · exact hn1 e
    · exact hn2 e
    · exact hn3 e
  have p0 := hrg.c0
  have p1 : n3.cell? ⟨gr, 1, none⟩ = some (.slice ar 1 1) := hrg.c1
  have F_0 := fun (C : World → Prop) (hC : Vs.Grows (fun j => j = b1 ∨ j = b2 ∨ j = b3) n3 C) (z : Vs.In C) => hC.cell p0 hnr z
  have F_1 := fun (C : World → Prop) (hC : Vs.Grows (fun j => j = b1 ∨ j = b2 ∨ j = b3) n3 C) (z : Vs.In C) => hC.cell p1 hnr z
  refine Vs.wp_region_seg (S := fun j => j = b1 ∨ j = b2 ∨ j = b3) [0, 1, 2, 4, 5, 6, 8, 9, 10] [(3, 1), (7, 1), (11, 1), (12, 2), (13, 2), (14, 2)] (by kernel_rfl) (by kernel_rfl) 148 rfl (by kernel_rfl) ?_
  simp only [List.map_cons, List.map_nil, Vs.opOf_succ, Vs.opOf_zero]
  apply Exists.intro
  refine ⟨fun C hC => ?_, ?_⟩
  · haveI hI := hC.one
    have f_0 := F_0 C hC
    have f_1 := F_1 C hC
    repeat (go_big_quiet_step (fail))
    exact wpQuiet_nil rfl
  clear F_0 F_1
  clear p0 p1 hn1 hn2 hn3
  obtain ⟨E1, E2, o, ⟨n1', n2', n3', n4', n5', n6'⟩, hcls⟩ := names_out c (0, [s]) hc256 (by omega) rfl rfl
  have hko : ∀ (f : ML G → Nat → G → Int × ML G), True := fun _ => trivial
  have hp := fun W h1 h2 h3 => put_any c 0 ar 1 1 (0, [s]) B (b1 + 1) b1 [] W h1 h2 ok_nil hc256 (by omega) h3
  have hy := fun W h1 h2 h3 => yank_any c 0 ar 1 1 (0, [s]) B (b2 + 1) b2 [] W h1 h2 ok_nil hc256 (by omega) h3
  have hq := fun W h1 h2 h3 => cut_any c 0 ar 1 1 (0, [s]) B (b3 + 1) b3 [] W h1 h2 ok_nil hc256 (by omega) h3
  have ok1 := ok_put ok_nil c (0, [s])
  have ok2 := ok_yank ok_nil c (0, [s])
  have ok3 := ok_cut ok_nil c (0, [s])
  obtain ⟨P, hP⟩ : ∃ P, P = put [] c (0, [s]) := ⟨_, rfl⟩
  obtain ⟨Y, hY⟩ : ∃ Y, Y = yank [] c (0, [s]) := ⟨_, rfl⟩
  obtain ⟨Q, hQ⟩ : ∃ Q, Q = cut [] c (0, [s]) := ⟨_, rfl⟩
  rw [← hP] at hp ok1 n1' n2'
  rw [← hY] at hy ok2 n3' n4'
  rw [← hQ] at hq ok3 n5' n6'
  obtain ⟨e1, P⟩ := P
  obtain ⟨e2, Y⟩ := Y
  obtain ⟨e3, Q⟩ := Q
  simp only at n1' n2' n3' n4' n5' n6' ok1 ok2 ok3
  subst n1' n3' n5'
  have HK := Lib.hid (And.intro ok1 (And.intro ok2 (And.intro ok3 (And.intro n2' (And.intro n4' n6')))))
  have HC := Lib.hid hcls
  clear hP hY hQ ok1 ok2 ok3 n2' n4' n6' hcls hko
  refine Vs.wpPath_call (f := 16) (args := #[.pointer (some ⟨b1 + 1, 0, none⟩), .int .u8 (c : Int), .agg #[.int .i64 0, .slice ar 1 1]]) rfl rfl (fun W => by simp only [Vs.opOf_succ, Vs.opOf_zero]; go_simp) ?_
  intro A1 hA1
  refine (hp A1 (hel.below hA1) (hf1.below hA1) (Nat.le_trans hBn hA1.size)).mono ?_
  rintro e A2 ⟨rfl, r1, f1⟩
  refine ⟨_, rfl, f1.mono (fun j _ e => .inl e), ?_⟩
  simp only [Vs.opOf_succ, Vs.opOf_zero, Act.put, List.setIfInBounds_toArray, List.set_cons_zero, List.set_cons_succ]
  have F2 := (Fr.ofBelow hA1 (fun j => j = b1)).trans f1
  have r1 := r1
  have g2 := hf2.fr F2 (by omega) (by omega) (fun j e => (hf1.ro j e))
  have g3 := hf3.fr F2 (by omega) (by omega) (fun j e => (hf1.ro j e))
  have hrg2 := hrg.fr F2 (fun e => hnr (.inl e))
  have hel2 := hel.fr F2 hf1.ro
  clear hp
  refine Vs.wpPath_call (f := 14) (args := #[.pointer (some ⟨b2 + 1, 0, none⟩), .int .u8 (c : Int), .agg #[.int .i64 0, .slice ar 1 1]]) rfl rfl (fun W => by simp only [Vs.opOf_succ, Vs.opOf_zero]; go_simp) ?_
  intro A3 hA3
  refine (hy A3 (hel2.below hA3) (g2.below hA3) (Nat.le_trans hBn (Nat.le_trans F2.size hA3.size))).mono ?_
  rintro e A4 ⟨rfl, r2, f2⟩
  refine ⟨_, rfl, f2.mono (fun j _ e => .inr (.inl e)), ?_⟩
  simp only [Vs.opOf_succ, Vs.opOf_zero, Act.put, List.setIfInBounds_toArray, List.set_cons_zero, List.set_cons_succ]
  have F4 := (Fr.ofBelow hA3 (fun j => j = b2)).trans f2
  have r1 := r1.fr F4 (by omega) (by omega) (fun j e => g2.ro j e)
  have g3 := g3.fr F4 (by omega) (by omega) (fun j e => g2.ro j e)
  have hrg4 := hrg2.fr F4 (fun e => hnr (.inr (.inl e)))
  have hel4 := hel2.fr F4 g2.ro
  clear hy
  refine Vs.wpPath_call (f := 18) (args := #[.pointer (some ⟨b3 + 1, 0, none⟩), .int .u8 (c : Int), .agg #[.int .i64 0, .slice ar 1 1]]) rfl rfl (fun W => by simp only [Vs.opOf_succ, Vs.opOf_zero]; go_simp) ?_
  intro A5 hA5
  refine (hq A5 (hel4.below hA5) (g3.below hA5) (Nat.le_trans hBn (Nat.le_trans F2.size (Nat.le_trans F4.size hA5.size)))).mono ?_
  rintro e A6 ⟨rfl, r3, f3⟩
  refine ⟨_, rfl, f3.mono (fun j _ e => .inr (.inr e)), ?_⟩
  simp only [Vs.opOf_succ, Vs.opOf_zero, Act.put, List.setIfInBounds_toArray, List.set_cons_zero, List.set_cons_succ]
  have F6 := (Fr.ofBelow hA5 (fun j => j = b3)).trans f3
  have r1 := r1.fr F6 (by omega) (by omega) (fun j e => g3.ro j e)
  have r2 := r2.fr F6 (by omega) (by omega) (fun j e => g3.ro j e)
  have hrg6 := hrg4.fr F6 (fun e => hnr (.inr (.inr e)))
  have hel6 := hel4.fr F6 g3.ro
  clear hq
  refine Vs.wpPath_free (v := .int .i64 e1) rfl rfl (fun _ => rfl) ?_
  simp only [Vs.opOf_succ, Vs.opOf_zero, Act.put, List.setIfInBounds_toArray, List.set_cons_zero, List.set_cons_succ]
  refine Vs.wpPath_free (v := .int .i64 e3) rfl rfl (fun _ => rfl) ?_
  simp only [Vs.opOf_succ, Vs.opOf_zero, Act.put, List.setIfInBounds_toArray, List.set_cons_zero, List.set_cons_succ]
  refine Vs.wpPath_free (v := .int .i64 e3) rfl rfl (fun _ => by simp only [Vs.opOf_succ, Vs.opOf_zero]; go_simp) ?_
  simp only [Vs.opOf_succ, Vs.opOf_zero, Act.put, List.setIfInBounds_toArray, List.set_cons_zero, List.set_cons_succ]
  refine Vs.wpPath_end fun U hU => ?_
  have hbU : Below w.heap.size w U := by
    have h0 := HW.out.1.trans (hb02.mono HW.out.1.size)
    have hw := HW.out.2.2.2
    have hs := HS1.out
    have h1 := h0.trans (F2.below h0.size (fun j e => by have := hf1.2.1; omega))
    have h2 := h1.trans (F4.below h1.size (fun j e => by have := hf2.2.1; omega))
    have h3 := h2.trans (F6.below h2.size (fun j e => by have := hf3.2.1; omega))
    exact h3.trans (hU.mono h3.size)
  have HU := Lib.hid (And.intro (r1.below hU) (And.intro (r2.below hU) (And.intro (r3.below hU) (And.intro (hrg6.below hU hrg6.lt) (And.intro (hel6.below hU) hbU)))))
  clear F2 F4 F6 f1 f2 f3 r1 r2 r3 g2 g3 hrg hrg2 hrg4 hrg6 hel hel2 hel4 hel6 hA1 hA3 hA5 hU hbU hf1 hf2 hf3 hb12 hb02 hnr hBn hd1 hgt
  rcases HC.out with ⟨hcc, h1, h2, h3⟩ | ⟨hcc, h1, h2, h3⟩ | ⟨hcc, h1, h2, h3⟩ | ⟨hcc, h1, h2, h3⟩ | ⟨hcc, h1, h2, h3⟩ | ⟨hcc, h1, h2, h3⟩ | ⟨hcc, h1, h2, h3⟩ | ⟨hcc, h1, h2, h3⟩
  · have f1 : (97 : Int) ≤ (c : Int) := by omega
    have f2 : (c : Int) ≤ 122 := by omega
    have f3 : (65 : Int) ≤ (c : Int) := by omega
    have f4 : ¬ (c : Int) ≤ 90 := by omega
    have f5 : ((c : Int) == 0) = false := by rw [beq_eq_false_iff_ne]; omega
    have f6 : ((c : Int) == 34) = false := by rw [beq_eq_false_iff_ne]; omega
    have f7 : ((c : Int) == 95) = false := by rw [beq_eq_false_iff_ne]; omega
    clear hcc hc256
    subst h1 h2 h3
    clear HC
    have hg1 : Calls Try.prog 21 #[.pointer (some ⟨b2 + 1, 0, none⟩), .int .u8 34] U fun e w' => RbOut U B (0, [s]) true e w' := by
      have h := get_any 34 B (b2 + 1) b2 Y U HU.out.2.1 HK.out.2.1 (by omega) (Nat.le_trans HU.out.2.1.2.1 (Nat.le_of_lt HU.out.2.1.blt))
      rw [show reg 34 = 34 from rfl, HK.out.2.2.2.2.1] at h
      exact h
    have hg2 : ∀ W, Below U.heap.size U W → Calls Try.prog 21 #[.pointer (some ⟨b3 + 1, 0, none⟩), .int .u8 34] W fun e w' => RbOut W B (0, [s]) true e w' := fun W hW => by
      have hf := HU.out.2.2.1.below hW
      have h := get_any 34 B (b3 + 1) b3 Q W hf HK.out.2.2.1 (by omega) (Nat.le_trans hf.2.1 (Nat.le_of_lt hf.blt))
      rw [show reg 34 = 34 from rfl, HK.out.2.2.2.2.2] at h
      exact h
    have hg3 : ∀ W, Below U.heap.size U W → Calls Try.prog 21 #[.pointer (some ⟨b1 + 1, 0, none⟩), .int .u8 34] W fun e w' => RbOut W B (0, []) false e w' := fun W hW => by
      have hf := HU.out.1.below hW
      have h := get_any 34 B (b1 + 1) b1 P W hf HK.out.1 (by omega) (Nat.le_trans hf.2.1 (Nat.le_of_lt hf.blt))
      rw [show reg 34 = 34 from rfl, HK.out.2.2.2.1] at h
      exact h
    go_wp2_with fail
    refine (hg1).mono ?_
    rintro e v1 ⟨⟨k1, a1, n1', c1⟩, rfl, he1, hb1⟩
    simp only [rv, sv]
    go_upto_region 13 with fail
    obtain ⟨v1', hv1⟩ : ∃ v1', v1' = v1.alloc (.cells #[.int .i64 k1, .slice a1 n1' c1] 33) := ⟨_, rfl⟩
    have hb1' : Below v1.heap.size v1 v1' := by rw [hv1]; exact one_below _ _
    have hr1 : RegAt v1' v1.heap.size (k1, a1, n1', c1) := by rw [hv1]; exact RegAt.new v1 (k1, a1, n1', c1)
    obtain ⟨u1, hu1⟩ : ∃ u1, u1 = v1.heap.size := ⟨_, rfl⟩
    rw [← hu1] at hr1
    rw [← hv1, ← hu1]
    have H1 := Lib.hid (And.intro ((below_on hb1 hb1')) (And.intro hr1 (And.intro (he1.below hb1') (below_on hb1 hb1'))))
    clear hv1 hb1' hr1 hu1 he1 hb1 hg1
    go_wp2_with fail
    refine (hg2 _ H1.out.1).mono ?_
    rintro e v2 ⟨⟨k2, a2, n2', c2⟩, rfl, he2, hb2⟩
    simp only [rv, sv]
    go_upto_region 14 with fail
    obtain ⟨v2', hv2⟩ : ∃ v2', v2' = v2.alloc (.cells #[.int .i64 k2, .slice a2 n2' c2] 33) := ⟨_, rfl⟩
    have hb2' : Below v2.heap.size v2 v2' := by rw [hv2]; exact one_below _ _
    have hr2 : RegAt v2' v2.heap.size (k2, a2, n2', c2) := by rw [hv2]; exact RegAt.new v2 (k2, a2, n2', c2)
    obtain ⟨u2, hu2⟩ : ∃ u2, u2 = v2.heap.size := ⟨_, rfl⟩
    rw [← hu2] at hr2
    rw [← hv2, ← hu2]
    have H2 := Lib.hid (And.intro (below_on H1.out.1 (below_on hb2 hb2')) (And.intro hr2 (And.intro (he2.below hb2') (below_on hb2 hb2'))))
    clear hv2 hb2' hr2 hu2 he2 hb2 hg2
    go_wp2_with fail
    refine (hg3 _ H2.out.1).mono ?_
    rintro e v3 ⟨⟨k3, a3, n3', c3⟩, rfl, he3, hb3⟩
    simp only [rv, sv]
    go_upto_region 15 with fail
    obtain ⟨v3', hv3⟩ : ∃ v3', v3' = v3.alloc (.cells #[.int .i64 k3, .slice a3 n3' c3] 33) := ⟨_, rfl⟩
    have hb3' : Below v3.heap.size v3 v3' := by rw [hv3]; exact one_below _ _
    have hr3 : RegAt v3' v3.heap.size (k3, a3, n3', c3) := by rw [hv3]; exact RegAt.new v3 (k3, a3, n3', c3)
    obtain ⟨u3, hu3⟩ : ∃ u3, u3 = v3.heap.size := ⟨_, rfl⟩
    rw [← hu3] at hr3
    rw [← hv3, ← hu3]
    have H3 := Lib.hid (And.intro (below_on H2.out.1 (below_on hb3 hb3')) (And.intro hr3 (And.intro (he3.below hb3') (below_on hb3 hb3'))))
    clear hv3 hb3' hr3 hu3 he3 hb3 hg3
    have hz : n3' = 0 := H3.out.2.2.1.len.symm
    subst hz
    have q0 := H3.out.2.1.c0
    have q1 : v3'.cell? ⟨u3, 1, none⟩ = some (.slice a3 0 c3) := H3.out.2.1.c1
    have b13 := below_on H2.out.2.2.2 H3.out.2.2.2
    have p0 := (H1.out.2.1.below b13 H1.out.2.1.lt).c0
    have p1 : v3'.cell? ⟨u1, 1, none⟩ = some (.slice a1 n1' c1) := (H1.out.2.1.below b13 H1.out.2.1.lt).c1
    have r0 := (HU.out.2.2.2.1.below H3.out.1 HU.out.2.2.2.1.lt).c0
    have r1 : v3'.cell? ⟨gr, 1, none⟩ = some (.slice ar 1 1) := (HU.out.2.2.2.1.below H3.out.1 HU.out.2.2.2.1.lt).c1
    have h1e := H1.out.2.2.1.below b13
    clear b13
    have HH1 := Lib.hid h1e
    clear h1e
    go_wp2_with fail
    refine (reg_true HH1.out (HU.out.2.2.2.2.1.below H3.out.1)).mono ?_
    rintro e v4 ⟨rfl, hb4⟩
    have B4 := Lib.hid (And.intro (below_on H3.out.1 hb4) hb4)
    clear p0 p1 q0 q1 r0 r1 hb4
    have p0 := (H2.out.2.1.below (below_on H3.out.2.2.2 B4.out.2) H2.out.2.1.lt).c0
    have p1 : v4.cell? ⟨u2, 1, none⟩ = some (.slice a2 n2' c2) := (H2.out.2.1.below (below_on H3.out.2.2.2 B4.out.2) H2.out.2.1.lt).c1
    have r0 := (HU.out.2.2.2.1.below B4.out.1 HU.out.2.2.2.1.lt).c0
    have r1 : v4.cell? ⟨gr, 1, none⟩ = some (.slice ar 1 1) := (HU.out.2.2.2.1.below B4.out.1 HU.out.2.2.2.1.lt).c1
    go_wp2_with fail
    refine (reg_true (H2.out.2.2.1.below (below_on H3.out.2.2.2 B4.out.2)) (HU.out.2.2.2.2.1.below B4.out.1)).mono ?_
    rintro e v5 ⟨rfl, hb5⟩
    have HE := Lib.hid (HU.out.2.2.2.2.2.trans ((below_on B4.out.1 hb5).mono HU.out.2.2.2.2.2.size))
    clear p0 p1 r0 r1 hb5
    go_wp2
    go_ret
    exact ⟨rfl, HE.out⟩
  · have f1 : ¬ (97 : Int) ≤ (c : Int) := by omega
    have f2 : (c : Int) ≤ 122 := by omega
    have f3 : (65 : Int) ≤ (c : Int) := by omega
    have f4 : (c : Int) ≤ 90 := by omega
    have f5 : ((c : Int) == 0) = false := by rw [beq_eq_false_iff_ne]; omega
    have f6 : ((c : Int) == 34) = false := by rw [beq_eq_false_iff_ne]; omega
    have f7 : ((c : Int) == 95) = false := by rw [beq_eq_false_iff_ne]; omega
    clear hcc hc256
    subst h1 h2 h3
    clear HC
    have hg1 : Calls Try.prog 21 #[.pointer (some ⟨b2 + 1, 0, none⟩), .int .u8 34] U fun e w' => RbOut U B (0, [s]) true e w' := by
      have h := get_any 34 B (b2 + 1) b2 Y U HU.out.2.1 HK.out.2.1 (by omega) (Nat.le_trans HU.out.2.1.2.1 (Nat.le_of_lt HU.out.2.1.blt))
      rw [show reg 34 = 34 from rfl, HK.out.2.2.2.2.1] at h
      exact h
    have hg2 : ∀ W, Below U.heap.size U W → Calls Try.prog 21 #[.pointer (some ⟨b3 + 1, 0, none⟩), .int .u8 34] W fun e w' => RbOut W B (0, [s]) true e w' := fun W hW => by
      have hf := HU.out.2.2.1.below hW
      have h := get_any 34 B (b3 + 1) b3 Q W hf HK.out.2.2.1 (by omega) (Nat.le_trans hf.2.1 (Nat.le_of_lt hf.blt))
      rw [show reg 34 = 34 from rfl, HK.out.2.2.2.2.2] at h
      exact h
    have hg3 : ∀ W, Below U.heap.size U W → Calls Try.prog 21 #[.pointer (some ⟨b1 + 1, 0, none⟩), .int .u8 34] W fun e w' => RbOut W B (0, []) false e w' := fun W hW => by
      have hf := HU.out.1.below hW
      have h := get_any 34 B (b1 + 1) b1 P W hf HK.out.1 (by omega) (Nat.le_trans hf.2.1 (Nat.le_of_lt hf.blt))
      rw [show reg 34 = 34 from rfl, HK.out.2.2.2.1] at h
      exact h
    go_wp2_with fail
    refine (hg1).mono ?_
    rintro e v1 ⟨⟨k1, a1, n1', c1⟩, rfl, he1, hb1⟩
    simp only [rv, sv]
    go_upto_region 13 with fail
    obtain ⟨v1', hv1⟩ : ∃ v1', v1' = v1.alloc (.cells #[.int .i64 k1, .slice a1 n1' c1] 33) := ⟨_, rfl⟩
    have hb1' : Below v1.heap.size v1 v1' := by rw [hv1]; exact one_below _ _
    have hr1 : RegAt v1' v1.heap.size (k1, a1, n1', c1) := by rw [hv1]; exact RegAt.new v1 (k1, a1, n1', c1)
    obtain ⟨u1, hu1⟩ : ∃ u1, u1 = v1.heap.size := ⟨_, rfl⟩
    rw [← hu1] at hr1
    rw [← hv1, ← hu1]
    have H1 := Lib.hid (And.intro ((below_on hb1 hb1')) (And.intro hr1 (And.intro (he1.below hb1') (below_on hb1 hb1'))))
    clear hv1 hb1' hr1 hu1 he1 hb1 hg1
    go_wp2_with fail
    refine (hg2 _ H1.out.1).mono ?_
    rintro e v2 ⟨⟨k2, a2, n2', c2⟩, rfl, he2, hb2⟩
    simp only [rv, sv]
    go_upto_region 14 with fail
    obtain ⟨v2', hv2⟩ : ∃ v2', v2' = v2.alloc (.cells #[.int .i64 k2, .slice a2 n2' c2] 33) := ⟨_, rfl⟩
    have hb2' : Below v2.heap.size v2 v2' := by rw [hv2]; exact one_below _ _
    have hr2 : RegAt v2' v2.heap.size (k2, a2, n2', c2) := by rw [hv2]; exact RegAt.new v2 (k2, a2, n2', c2)
    obtain ⟨u2, hu2⟩ : ∃ u2, u2 = v2.heap.size := ⟨_, rfl⟩
    rw [← hu2] at hr2
    rw [← hv2, ← hu2]
    have H2 := Lib.hid (And.intro (below_on H1.out.1 (below_on hb2 hb2')) (And.intro hr2 (And.intro (he2.below hb2') (below_on hb2 hb2'))))
    clear hv2 hb2' hr2 hu2 he2 hb2 hg2
    go_wp2_with fail
    refine (hg3 _ H2.out.1).mono ?_
    rintro e v3 ⟨⟨k3, a3, n3', c3⟩, rfl, he3, hb3⟩
    simp only [rv, sv]
    go_upto_region 15 with fail
    obtain ⟨v3', hv3⟩ : ∃ v3', v3' = v3.alloc (.cells #[.int .i64 k3, .slice a3 n3' c3] 33) := ⟨_, rfl⟩
    have hb3' : Below v3.heap.size v3 v3' := by rw [hv3]; exact one_below _ _
    have hr3 : RegAt v3' v3.heap.size (k3, a3, n3', c3) := by rw [hv3]; exact RegAt.new v3 (k3, a3, n3', c3)
    obtain ⟨u3, hu3⟩ : ∃ u3, u3 = v3.heap.size := ⟨_, rfl⟩
    rw [← hu3] at hr3
    rw [← hv3, ← hu3]
    have H3 := Lib.hid (And.intro (below_on H2.out.1 (below_on hb3 hb3')) (And.intro hr3 (And.intro (he3.below hb3') (below_on hb3 hb3'))))
    clear hv3 hb3' hr3 hu3 he3 hb3 hg3
    have hz : n3' = 0 := H3.out.2.2.1.len.symm
    subst hz
    have q0 := H3.out.2.1.c0
    have q1 : v3'.cell? ⟨u3, 1, none⟩ = some (.slice a3 0 c3) := H3.out.2.1.c1
    have b13 := below_on H2.out.2.2.2 H3.out.2.2.2
    have p0 := (H1.out.2.1.below b13 H1.out.2.1.lt).c0
    have p1 : v3'.cell? ⟨u1, 1, none⟩ = some (.slice a1 n1' c1) := (H1.out.2.1.below b13 H1.out.2.1.lt).c1
    have r0 := (HU.out.2.2.2.1.below H3.out.1 HU.out.2.2.2.1.lt).c0
    have r1 : v3'.cell? ⟨gr, 1, none⟩ = some (.slice ar 1 1) := (HU.out.2.2.2.1.below H3.out.1 HU.out.2.2.2.1.lt).c1
    have h1e := H1.out.2.2.1.below b13
    clear b13
    have HH1 := Lib.hid h1e
    clear h1e
    go_wp2_with fail
    refine (reg_true HH1.out (HU.out.2.2.2.2.1.below H3.out.1)).mono ?_
    rintro e v4 ⟨rfl, hb4⟩
    have B4 := Lib.hid (And.intro (below_on H3.out.1 hb4) hb4)
    clear p0 p1 q0 q1 r0 r1 hb4
    have p0 := (H2.out.2.1.below (below_on H3.out.2.2.2 B4.out.2) H2.out.2.1.lt).c0
    have p1 : v4.cell? ⟨u2, 1, none⟩ = some (.slice a2 n2' c2) := (H2.out.2.1.below (below_on H3.out.2.2.2 B4.out.2) H2.out.2.1.lt).c1
    have r0 := (HU.out.2.2.2.1.below B4.out.1 HU.out.2.2.2.1.lt).c0
    have r1 : v4.cell? ⟨gr, 1, none⟩ = some (.slice ar 1 1) := (HU.out.2.2.2.1.below B4.out.1 HU.out.2.2.2.1.lt).c1
    go_wp2_with fail
    refine (reg_true (H2.out.2.2.1.below (below_on H3.out.2.2.2 B4.out.2)) (HU.out.2.2.2.2.1.below B4.out.1)).mono ?_
    rintro e v5 ⟨rfl, hb5⟩
    have HE := Lib.hid (HU.out.2.2.2.2.2.trans ((below_on B4.out.1 hb5).mono HU.out.2.2.2.2.2.size))
    clear p0 p1 r0 r1 hb5
    go_wp2
    go_ret
    exact ⟨rfl, HE.out⟩
  · subst hcc
    clear hc256
    subst h1 h2 h3
    clear HC
    have hg1 : Calls Try.prog 21 #[.pointer (some ⟨b2 + 1, 0, none⟩), .int .u8 34] U fun e w' => RbOut U B (0, [s]) true e w' := by
      have h := get_any 34 B (b2 + 1) b2 Y U HU.out.2.1 HK.out.2.1 (by omega) (Nat.le_trans HU.out.2.1.2.1 (Nat.le_of_lt HU.out.2.1.blt))
      rw [show reg 34 = 34 from rfl, HK.out.2.2.2.2.1] at h
      exact h
    have hg2 : ∀ W, Below U.heap.size U W → Calls Try.prog 21 #[.pointer (some ⟨b3 + 1, 0, none⟩), .int .u8 34] W fun e w' => RbOut W B (0, [s]) true e w' := fun W hW => by
      have hf := HU.out.2.2.1.below hW
      have h := get_any 34 B (b3 + 1) b3 Q W hf HK.out.2.2.1 (by omega) (Nat.le_trans hf.2.1 (Nat.le_of_lt hf.blt))
      rw [show reg 34 = 34 from rfl, HK.out.2.2.2.2.2] at h
      exact h
    have hg3 : ∀ W, Below U.heap.size U W → Calls Try.prog 21 #[.pointer (some ⟨b1 + 1, 0, none⟩), .int .u8 34] W fun e w' => RbOut W B (0, []) false e w' := fun W hW => by
      have hf := HU.out.1.below hW
      have h := get_any 34 B (b1 + 1) b1 P W hf HK.out.1 (by omega) (Nat.le_trans hf.2.1 (Nat.le_of_lt hf.blt))
      rw [show reg 34 = 34 from rfl, HK.out.2.2.2.1] at h
      exact h
    go_wp2_with fail
    refine (hg1).mono ?_
    rintro e v1 ⟨⟨k1, a1, n1', c1⟩, rfl, he1, hb1⟩
    simp only [rv, sv]
    go_upto_region 13 with fail
    obtain ⟨v1', hv1⟩ : ∃ v1', v1' = v1.alloc (.cells #[.int .i64 k1, .slice a1 n1' c1] 33) := ⟨_, rfl⟩
    have hb1' : Below v1.heap.size v1 v1' := by rw [hv1]; exact one_below _ _
    have hr1 : RegAt v1' v1.heap.size (k1, a1, n1', c1) := by rw [hv1]; exact RegAt.new v1 (k1, a1, n1', c1)
    obtain ⟨u1, hu1⟩ : ∃ u1, u1 = v1.heap.size := ⟨_, rfl⟩
    rw [← hu1] at hr1
    rw [← hv1, ← hu1]
    have H1 := Lib.hid (And.intro ((below_on hb1 hb1')) (And.intro hr1 (And.intro (he1.below hb1') (below_on hb1 hb1'))))
    clear hv1 hb1' hr1 hu1 he1 hb1 hg1
    go_wp2_with fail
    refine (hg2 _ H1.out.1).mono ?_
    rintro e v2 ⟨⟨k2, a2, n2', c2⟩, rfl, he2, hb2⟩
    simp only [rv, sv]
    go_upto_region 14 with fail
    obtain ⟨v2', hv2⟩ : ∃ v2', v2' = v2.alloc (.cells #[.int .i64 k2, .slice a2 n2' c2] 33) := ⟨_, rfl⟩
    have hb2' : Below v2.heap.size v2 v2' := by rw [hv2]; exact one_below _ _
    have hr2 : RegAt v2' v2.heap.size (k2, a2, n2', c2) := by rw [hv2]; exact RegAt.new v2 (k2, a2, n2', c2)
    obtain ⟨u2, hu2⟩ : ∃ u2, u2 = v2.heap.size := ⟨_, rfl⟩
    rw [← hu2] at hr2
    rw [← hv2, ← hu2]
    have H2 := Lib.hid (And.intro (below_on H1.out.1 (below_on hb2 hb2')) (And.intro hr2 (And.intro (he2.below hb2') (below_on hb2 hb2'))))
    clear hv2 hb2' hr2 hu2 he2 hb2 hg2
    go_wp2_with fail
    refine (hg3 _ H2.out.1).mono ?_
    rintro e v3 ⟨⟨k3, a3, n3', c3⟩, rfl, he3, hb3⟩
    simp only [rv, sv]
    go_upto_region 15 with fail
    obtain ⟨v3', hv3⟩ : ∃ v3', v3' = v3.alloc (.cells #[.int .i64 k3, .slice a3 n3' c3] 33) := ⟨_, rfl⟩
    have hb3' : Below v3.heap.size v3 v3' := by rw [hv3]; exact one_below _ _
    have hr3 : RegAt v3' v3.heap.size (k3, a3, n3', c3) := by rw [hv3]; exact RegAt.new v3 (k3, a3, n3', c3)
    obtain ⟨u3, hu3⟩ : ∃ u3, u3 = v3.heap.size := ⟨_, rfl⟩
    rw [← hu3] at hr3
    rw [← hv3, ← hu3]
    have H3 := Lib.hid (And.intro (below_on H2.out.1 (below_on hb3 hb3')) (And.intro hr3 (And.intro (he3.below hb3') (below_on hb3 hb3'))))
    clear hv3 hb3' hr3 hu3 he3 hb3 hg3
    have hz : n3' = 0 := H3.out.2.2.1.len.symm
    subst hz
    have q0 := H3.out.2.1.c0
    have q1 : v3'.cell? ⟨u3, 1, none⟩ = some (.slice a3 0 c3) := H3.out.2.1.c1
    have b13 := below_on H2.out.2.2.2 H3.out.2.2.2
    have p0 := (H1.out.2.1.below b13 H1.out.2.1.lt).c0
    have p1 : v3'.cell? ⟨u1, 1, none⟩ = some (.slice a1 n1' c1) := (H1.out.2.1.below b13 H1.out.2.1.lt).c1
    have r0 := (HU.out.2.2.2.1.below H3.out.1 HU.out.2.2.2.1.lt).c0
    have r1 : v3'.cell? ⟨gr, 1, none⟩ = some (.slice ar 1 1) := (HU.out.2.2.2.1.below H3.out.1 HU.out.2.2.2.1.lt).c1
    have h1e := H1.out.2.2.1.below b13
    clear b13
    have HH1 := Lib.hid h1e
    clear h1e
    go_wp2_with fail
    refine (reg_true HH1.out (HU.out.2.2.2.2.1.below H3.out.1)).mono ?_
    rintro e v4 ⟨rfl, hb4⟩
    have B4 := Lib.hid (And.intro (below_on H3.out.1 hb4) hb4)
    clear p0 p1 q0 q1 r0 r1 hb4
    have p0 := (H2.out.2.1.below (below_on H3.out.2.2.2 B4.out.2) H2.out.2.1.lt).c0
    have p1 : v4.cell? ⟨u2, 1, none⟩ = some (.slice a2 n2' c2) := (H2.out.2.1.below (below_on H3.out.2.2.2 B4.out.2) H2.out.2.1.lt).c1
    have r0 := (HU.out.2.2.2.1.below B4.out.1 HU.out.2.2.2.1.lt).c0
    have r1 : v4.cell? ⟨gr, 1, none⟩ = some (.slice ar 1 1) := (HU.out.2.2.2.1.below B4.out.1 HU.out.2.2.2.1.lt).c1
    go_wp2_with fail
    refine (reg_true (H2.out.2.2.1.below (below_on H3.out.2.2.2 B4.out.2)) (HU.out.2.2.2.2.1.below B4.out.1)).mono ?_
    rintro e v5 ⟨rfl, hb5⟩
    have HE := Lib.hid (HU.out.2.2.2.2.2.trans ((below_on B4.out.1 hb5).mono HU.out.2.2.2.2.2.size))
    clear p0 p1 r0 r1 hb5
    go_wp2
    go_ret
    exact ⟨rfl, HE.out⟩
  · subst hcc
    clear hc256
    subst h1 h2 h3
    clear HC
    have hg1 : Calls Try.prog 21 #[.pointer (some ⟨b2 + 1, 0, none⟩), .int .u8 34] U fun e w' => RbOut U B (0, [s]) true e w' := by
      have h := get_any 34 B (b2 + 1) b2 Y U HU.out.2.1 HK.out.2.1 (by omega) (Nat.le_trans HU.out.2.1.2.1 (Nat.le_of_lt HU.out.2.1.blt))
      rw [show reg 34 = 34 from rfl, HK.out.2.2.2.2.1] at h
      exact h
    have hg2 : ∀ W, Below U.heap.size U W → Calls Try.prog 21 #[.pointer (some ⟨b3 + 1, 0, none⟩), .int .u8 34] W fun e w' => RbOut W B (0, [s]) true e w' := fun W hW => by
      have hf := HU.out.2.2.1.below hW
      have h := get_any 34 B (b3 + 1) b3 Q W hf HK.out.2.2.1 (by omega) (Nat.le_trans hf.2.1 (Nat.le_of_lt hf.blt))
      rw [show reg 34 = 34 from rfl, HK.out.2.2.2.2.2] at h
      exact h
    have hg3 : ∀ W, Below U.heap.size U W → Calls Try.prog 21 #[.pointer (some ⟨b1 + 1, 0, none⟩), .int .u8 34] W fun e w' => RbOut W B (0, []) false e w' := fun W hW => by
      have hf := HU.out.1.below hW
      have h := get_any 34 B (b1 + 1) b1 P W hf HK.out.1 (by omega) (Nat.le_trans hf.2.1 (Nat.le_of_lt hf.blt))
      rw [show reg 34 = 34 from rfl, HK.out.2.2.2.1] at h
      exact h
    go_wp2_with fail
    refine (hg1).mono ?_
    rintro e v1 ⟨⟨k1, a1, n1', c1⟩, rfl, he1, hb1⟩
    simp only [rv, sv]
    go_upto_region 13 with fail
    obtain ⟨v1', hv1⟩ : ∃ v1', v1' = v1.alloc (.cells #[.int .i64 k1, .slice a1 n1' c1] 33) := ⟨_, rfl⟩
    have hb1' : Below v1.heap.size v1 v1' := by rw [hv1]; exact one_below _ _
    have hr1 : RegAt v1' v1.heap.size (k1, a1, n1', c1) := by rw [hv1]; exact RegAt.new v1 (k1, a1, n1', c1)
    obtain ⟨u1, hu1⟩ : ∃ u1, u1 = v1.heap.size := ⟨_, rfl⟩
    rw [← hu1] at hr1
    rw [← hv1, ← hu1]
    have H1 := Lib.hid (And.intro ((below_on hb1 hb1')) (And.intro hr1 (And.intro (he1.below hb1') (below_on hb1 hb1'))))
    clear hv1 hb1' hr1 hu1 he1 hb1 hg1
    go_wp2_with fail
    refine (hg2 _ H1.out.1).mono ?_
    rintro e v2 ⟨⟨k2, a2, n2', c2⟩, rfl, he2, hb2⟩
    simp only [rv, sv]
    go_upto_region 14 with fail
    obtain ⟨v2', hv2⟩ : ∃ v2', v2' = v2.alloc (.cells #[.int .i64 k2, .slice a2 n2' c2] 33) := ⟨_, rfl⟩
    have hb2' : Below v2.heap.size v2 v2' := by rw [hv2]; exact one_below _ _
    have hr2 : RegAt v2' v2.heap.size (k2, a2, n2', c2) := by rw [hv2]; exact RegAt.new v2 (k2, a2, n2', c2)
    obtain ⟨u2, hu2⟩ : ∃ u2, u2 = v2.heap.size := ⟨_, rfl⟩
    rw [← hu2] at hr2
    rw [← hv2, ← hu2]
    have H2 := Lib.hid (And.intro (below_on H1.out.1 (below_on hb2 hb2')) (And.intro hr2 (And.intro (he2.below hb2') (below_on hb2 hb2'))))
    clear hv2 hb2' hr2 hu2 he2 hb2 hg2
    go_wp2_with fail
    refine (hg3 _ H2.out.1).mono ?_
    rintro e v3 ⟨⟨k3, a3, n3', c3⟩, rfl, he3, hb3⟩
    simp only [rv, sv]
    go_upto_region 15 with fail
    obtain ⟨v3', hv3⟩ : ∃ v3', v3' = v3.alloc (.cells #[.int .i64 k3, .slice a3 n3' c3] 33) := ⟨_, rfl⟩
    have hb3' : Below v3.heap.size v3 v3' := by rw [hv3]; exact one_below _ _
    have hr3 : RegAt v3' v3.heap.size (k3, a3, n3', c3) := by rw [hv3]; exact RegAt.new v3 (k3, a3, n3', c3)
    obtain ⟨u3, hu3⟩ : ∃ u3, u3 = v3.heap.size := ⟨_, rfl⟩
    rw [← hu3] at hr3
    rw [← hv3, ← hu3]
    have H3 := Lib.hid (And.intro (below_on H2.out.1 (below_on hb3 hb3')) (And.intro hr3 (And.intro (he3.below hb3') (below_on hb3 hb3'))))
    clear hv3 hb3' hr3 hu3 he3 hb3 hg3
    have hz : n3' = 0 := H3.out.2.2.1.len.symm
    subst hz
    have q0 := H3.out.2.1.c0
    have q1 : v3'.cell? ⟨u3, 1, none⟩ = some (.slice a3 0 c3) := H3.out.2.1.c1
    have b13 := below_on H2.out.2.2.2 H3.out.2.2.2
    have p0 := (H1.out.2.1.below b13 H1.out.2.1.lt).c0
    have p1 : v3'.cell? ⟨u1, 1, none⟩ = some (.slice a1 n1' c1) := (H1.out.2.1.below b13 H1.out.2.1.lt).c1
    have r0 := (HU.out.2.2.2.1.below H3.out.1 HU.out.2.2.2.1.lt).c0
    have r1 : v3'.cell? ⟨gr, 1, none⟩ = some (.slice ar 1 1) := (HU.out.2.2.2.1.below H3.out.1 HU.out.2.2.2.1.lt).c1
    have h1e := H1.out.2.2.1.below b13
    clear b13
    have HH1 := Lib.hid h1e
    clear h1e
    go_wp2_with fail
    refine (reg_true HH1.out (HU.out.2.2.2.2.1.below H3.out.1)).mono ?_
    rintro e v4 ⟨rfl, hb4⟩
    have B4 := Lib.hid (And.intro (below_on H3.out.1 hb4) hb4)
    clear p0 p1 q0 q1 r0 r1 hb4
    have p0 := (H2.out.2.1.below (below_on H3.out.2.2.2 B4.out.2) H2.out.2.1.lt).c0
    have p1 : v4.cell? ⟨u2, 1, none⟩ = some (.slice a2 n2' c2) := (H2.out.2.1.below (below_on H3.out.2.2.2 B4.out.2) H2.out.2.1.lt).c1
    have r0 := (HU.out.2.2.2.1.below B4.out.1 HU.out.2.2.2.1.lt).c0
    have r1 : v4.cell? ⟨gr, 1, none⟩ = some (.slice ar 1 1) := (HU.out.2.2.2.1.below B4.out.1 HU.out.2.2.2.1.lt).c1
    go_wp2_with fail
    refine (reg_true (H2.out.2.2.1.below (below_on H3.out.2.2.2 B4.out.2)) (HU.out.2.2.2.2.1.below B4.out.1)).mono ?_
    rintro e v5 ⟨rfl, hb5⟩
    have HE := Lib.hid (HU.out.2.2.2.2.2.trans ((below_on B4.out.1 hb5).mono HU.out.2.2.2.2.2.size))
    clear p0 p1 r0 r1 hb5
    go_wp2
    go_ret
    exact ⟨rfl, HE.out⟩
  · subst hcc
    clear hc256
    subst h1 h2 h3
    clear HC
    have hg1 : Calls Try.prog 21 #[.pointer (some ⟨b2 + 1, 0, none⟩), .int .u8 34] U fun e w' => RbOut U B (0, []) false e w' := by
      have h := get_any 34 B (b2 + 1) b2 Y U HU.out.2.1 HK.out.2.1 (by omega) (Nat.le_trans HU.out.2.1.2.1 (Nat.le_of_lt HU.out.2.1.blt))
      rw [show reg 34 = 34 from rfl, HK.out.2.2.2.2.1] at h
      exact h
    have hg2 : ∀ W, Below U.heap.size U W → Calls Try.prog 21 #[.pointer (some ⟨b3 + 1, 0, none⟩), .int .u8 34] W fun e w' => RbOut W B (0, []) false e w' := fun W hW => by
      have hf := HU.out.2.2.1.below hW
      have h := get_any 34 B (b3 + 1) b3 Q W hf HK.out.2.2.1 (by omega) (Nat.le_trans hf.2.1 (Nat.le_of_lt hf.blt))
      rw [show reg 34 = 34 from rfl, HK.out.2.2.2.2.2] at h
      exact h
    have hg3 : ∀ W, Below U.heap.size U W → Calls Try.prog 21 #[.pointer (some ⟨b1 + 1, 0, none⟩), .int .u8 34] W fun e w' => RbOut W B (0, []) false e w' := fun W hW => by
      have hf := HU.out.1.below hW
      have h := get_any 34 B (b1 + 1) b1 P W hf HK.out.1 (by omega) (Nat.le_trans hf.2.1 (Nat.le_of_lt hf.blt))
      rw [show reg 34 = 34 from rfl, HK.out.2.2.2.1] at h
      exact h
    go_wp2_with fail
    refine (hg1).mono ?_
    rintro e v1 ⟨⟨k1, a1, n1', c1⟩, rfl, he1, hb1⟩
    simp only [rv, sv]
    go_upto_region 13 with fail
    obtain ⟨v1', hv1⟩ : ∃ v1', v1' = v1.alloc (.cells #[.int .i64 k1, .slice a1 n1' c1] 33) := ⟨_, rfl⟩
    have hb1' : Below v1.heap.size v1 v1' := by rw [hv1]; exact one_below _ _
    have hr1 : RegAt v1' v1.heap.size (k1, a1, n1', c1) := by rw [hv1]; exact RegAt.new v1 (k1, a1, n1', c1)
    obtain ⟨u1, hu1⟩ : ∃ u1, u1 = v1.heap.size := ⟨_, rfl⟩
    rw [← hu1] at hr1
    rw [← hv1, ← hu1]
    have H1 := Lib.hid (And.intro ((below_on hb1 hb1')) (And.intro hr1 (And.intro (he1.below hb1') (below_on hb1 hb1'))))
    clear hv1 hb1' hr1 hu1 he1 hb1 hg1
    go_wp2_with fail
    refine (hg2 _ H1.out.1).mono ?_
    rintro e v2 ⟨⟨k2, a2, n2', c2⟩, rfl, he2, hb2⟩
    simp only [rv, sv]
    go_upto_region 14 with fail
    obtain ⟨v2', hv2⟩ : ∃ v2', v2' = v2.alloc (.cells #[.int .i64 k2, .slice a2 n2' c2] 33) := ⟨_, rfl⟩
    have hb2' : Below v2.heap.size v2 v2' := by rw [hv2]; exact one_below _ _
    have hr2 : RegAt v2' v2.heap.size (k2, a2, n2', c2) := by rw [hv2]; exact RegAt.new v2 (k2, a2, n2', c2)
    obtain ⟨u2, hu2⟩ : ∃ u2, u2 = v2.heap.size := ⟨_, rfl⟩
    rw [← hu2] at hr2
    rw [← hv2, ← hu2]
    have H2 := Lib.hid (And.intro (below_on H1.out.1 (below_on hb2 hb2')) (And.intro hr2 (And.intro (he2.below hb2') (below_on hb2 hb2'))))
    clear hv2 hb2' hr2 hu2 he2 hb2 hg2
    go_wp2_with fail
    refine (hg3 _ H2.out.1).mono ?_
    rintro e v3 ⟨⟨k3, a3, n3', c3⟩, rfl, he3, hb3⟩
    simp only [rv, sv]
    go_upto_region 15 with fail
    obtain ⟨v3', hv3⟩ : ∃ v3', v3' = v3.alloc (.cells #[.int .i64 k3, .slice a3 n3' c3] 33) := ⟨_, rfl⟩
    have hb3' : Below v3.heap.size v3 v3' := by rw [hv3]; exact one_below _ _
    have hr3 : RegAt v3' v3.heap.size (k3, a3, n3', c3) := by rw [hv3]; exact RegAt.new v3 (k3, a3, n3', c3)
    obtain ⟨u3, hu3⟩ : ∃ u3, u3 = v3.heap.size := ⟨_, rfl⟩
    rw [← hu3] at hr3
    rw [← hv3, ← hu3]
    have H3 := Lib.hid (And.intro (below_on H2.out.1 (below_on hb3 hb3')) (And.intro hr3 (And.intro (he3.below hb3') (below_on hb3 hb3'))))
    clear hv3 hb3' hr3 hu3 he3 hb3 hg3
    have hz : n3' = 0 := H3.out.2.2.1.len.symm
    subst hz
    have q0 := H3.out.2.1.c0
    have q1 : v3'.cell? ⟨u3, 1, none⟩ = some (.slice a3 0 c3) := H3.out.2.1.c1
    have HE := Lib.hid (HU.out.2.2.2.2.2.trans (H3.out.1.mono HU.out.2.2.2.2.2.size))
    go_wp2
    go_ret
    exact ⟨rfl, HE.out⟩
  · have f1 : ¬ (97 : Int) ≤ (c : Int) := by omega
    have f2 : (c : Int) ≤ 122 := by omega
    have f3 : ¬ (65 : Int) ≤ (c : Int) := by omega
    have f4 : (c : Int) ≤ 90 := by omega
    have f5 : ((c : Int) == 0) = false := by rw [beq_eq_false_iff_ne]; omega
    have f6 : ((c : Int) == 34) = false := by rw [beq_eq_false_iff_ne]; omega
    have f7 : ((c : Int) == 95) = false := by rw [beq_eq_false_iff_ne]; omega
    clear hcc hc256
    subst h1 h2 h3
    clear HC
    have hg1 : Calls Try.prog 21 #[.pointer (some ⟨b2 + 1, 0, none⟩), .int .u8 34] U fun e w' => RbOut U B (0, []) false e w' := by
      have h := get_any 34 B (b2 + 1) b2 Y U HU.out.2.1 HK.out.2.1 (by omega) (Nat.le_trans HU.out.2.1.2.1 (Nat.le_of_lt HU.out.2.1.blt))
      rw [show reg 34 = 34 from rfl, HK.out.2.2.2.2.1] at h
      exact h
    have hg2 : ∀ W, Below U.heap.size U W → Calls Try.prog 21 #[.pointer (some ⟨b3 + 1, 0, none⟩), .int .u8 34] W fun e w' => RbOut W B (0, []) false e w' := fun W hW => by
      have hf := HU.out.2.2.1.below hW
      have h := get_any 34 B (b3 + 1) b3 Q W hf HK.out.2.2.1 (by omega) (Nat.le_trans hf.2.1 (Nat.le_of_lt hf.blt))
      rw [show reg 34 = 34 from rfl, HK.out.2.2.2.2.2] at h
      exact h
    have hg3 : ∀ W, Below U.heap.size U W → Calls Try.prog 21 #[.pointer (some ⟨b1 + 1, 0, none⟩), .int .u8 34] W fun e w' => RbOut W B (0, []) false e w' := fun W hW => by
      have hf := HU.out.1.below hW
      have h := get_any 34 B (b1 + 1) b1 P W hf HK.out.1 (by omega) (Nat.le_trans hf.2.1 (Nat.le_of_lt hf.blt))
      rw [show reg 34 = 34 from rfl, HK.out.2.2.2.1] at h
      exact h
    go_wp2_with fail
    refine (hg1).mono ?_
    rintro e v1 ⟨⟨k1, a1, n1', c1⟩, rfl, he1, hb1⟩
    simp only [rv, sv]
    go_upto_region 13 with fail
    obtain ⟨v1', hv1⟩ : ∃ v1', v1' = v1.alloc (.cells #[.int .i64 k1, .slice a1 n1' c1] 33) := ⟨_, rfl⟩
    have hb1' : Below v1.heap.size v1 v1' := by rw [hv1]; exact one_below _ _
    have hr1 : RegAt v1' v1.heap.size (k1, a1, n1', c1) := by rw [hv1]; exact RegAt.new v1 (k1, a1, n1', c1)
    obtain ⟨u1, hu1⟩ : ∃ u1, u1 = v1.heap.size := ⟨_, rfl⟩
    rw [← hu1] at hr1
    rw [← hv1, ← hu1]
    have H1 := Lib.hid (And.intro ((below_on hb1 hb1')) (And.intro hr1 (And.intro (he1.below hb1') (below_on hb1 hb1'))))
    clear hv1 hb1' hr1 hu1 he1 hb1 hg1
    go_wp2_with fail
    refine (hg2 _ H1.out.1).mono ?_
    rintro e v2 ⟨⟨k2, a2, n2', c2⟩, rfl, he2, hb2⟩
    simp only [rv, sv]
    go_upto_region 14 with fail
    obtain ⟨v2', hv2⟩ : ∃ v2', v2' = v2.alloc (.cells #[.int .i64 k2, .slice a2 n2' c2] 33) := ⟨_, rfl⟩
    have hb2' : Below v2.heap.size v2 v2' := by rw [hv2]; exact one_below _ _
    have hr2 : RegAt v2' v2.heap.size (k2, a2, n2', c2) := by rw [hv2]; exact RegAt.new v2 (k2, a2, n2', c2)
    obtain ⟨u2, hu2⟩ : ∃ u2, u2 = v2.heap.size := ⟨_, rfl⟩
    rw [← hu2] at hr2
    rw [← hv2, ← hu2]
    have H2 := Lib.hid (And.intro (below_on H1.out.1 (below_on hb2 hb2')) (And.intro hr2 (And.intro (he2.below hb2') (below_on hb2 hb2'))))
    clear hv2 hb2' hr2 hu2 he2 hb2 hg2
    go_wp2_with fail
    refine (hg3 _ H2.out.1).mono ?_
    rintro e v3 ⟨⟨k3, a3, n3', c3⟩, rfl, he3, hb3⟩
    simp only [rv, sv]
    go_upto_region 15 with fail
    obtain ⟨v3', hv3⟩ : ∃ v3', v3' = v3.alloc (.cells #[.int .i64 k3, .slice a3 n3' c3] 33) := ⟨_, rfl⟩
    have hb3' : Below v3.heap.size v3 v3' := by rw [hv3]; exact one_below _ _
    have hr3 : RegAt v3' v3.heap.size (k3, a3, n3', c3) := by rw [hv3]; exact RegAt.new v3 (k3, a3, n3', c3)
    obtain ⟨u3, hu3⟩ : ∃ u3, u3 = v3.heap.size := ⟨_, rfl⟩
    rw [← hu3] at hr3
    rw [← hv3, ← hu3]
    have H3 := Lib.hid (And.intro (below_on H2.out.1 (below_on hb3 hb3')) (And.intro hr3 (And.intro (he3.below hb3') (below_on hb3 hb3'))))
    clear hv3 hb3' hr3 hu3 he3 hb3 hg3
    have hz : n3' = 0 := H3.out.2.2.1.len.symm
    subst hz
    have q0 := H3.out.2.1.c0
    have q1 : v3'.cell? ⟨u3, 1, none⟩ = some (.slice a3 0 c3) := H3.out.2.1.c1
    have HE := Lib.hid (HU.out.2.2.2.2.2.trans (H3.out.1.mono HU.out.2.2.2.2.2.size))
    go_wp2
    go_ret
    exact ⟨rfl, HE.out⟩
  · have f1 : ¬ (97 : Int) ≤ (c : Int) := by omega
    have f2 : (c : Int) ≤ 122 := by omega
    have f3 : (65 : Int) ≤ (c : Int) := by omega
    have f4 : ¬ (c : Int) ≤ 90 := by omega
    have f5 : ((c : Int) == 0) = false := by rw [beq_eq_false_iff_ne]; omega
    have f6 : ((c : Int) == 34) = false := by rw [beq_eq_false_iff_ne]; omega
    have f7 : ((c : Int) == 95) = false := by rw [beq_eq_false_iff_ne]; omega
    clear hcc hc256
    subst h1 h2 h3
    clear HC
    have hg1 : Calls Try.prog 21 #[.pointer (some ⟨b2 + 1, 0, none⟩), .int .u8 34] U fun e w' => RbOut U B (0, []) false e w' := by
      have h := get_any 34 B (b2 + 1) b2 Y U HU.out.2.1 HK.out.2.1 (by omega) (Nat.le_trans HU.out.2.1.2.1 (Nat.le_of_lt HU.out.2.1.blt))
      rw [show reg 34 = 34 from rfl, HK.out.2.2.2.2.1] at h
      exact h
    have hg2 : ∀ W, Below U.heap.size U W → Calls Try.prog 21 #[.pointer (some ⟨b3 + 1, 0, none⟩), .int .u8 34] W fun e w' => RbOut W B (0, []) false e w' := fun W hW => by
      have hf := HU.out.2.2.1.below hW
      have h := get_any 34 B (b3 + 1) b3 Q W hf HK.out.2.2.1 (by omega) (Nat.le_trans hf.2.1 (Nat.le_of_lt hf.blt))
      rw [show reg 34 = 34 from rfl, HK.out.2.2.2.2.2] at h
      exact h
    have hg3 : ∀ W, Below U.heap.size U W → Calls Try.prog 21 #[.pointer (some ⟨b1 + 1, 0, none⟩), .int .u8 34] W fun e w' => RbOut W B (0, []) false e w' := fun W hW => by
      have hf := HU.out.1.below hW
      have h := get_any 34 B (b1 + 1) b1 P W hf HK.out.1 (by omega) (Nat.le_trans hf.2.1 (Nat.le_of_lt hf.blt))
      rw [show reg 34 = 34 from rfl, HK.out.2.2.2.1] at h
      exact h
    go_wp2_with fail
    refine (hg1).mono ?_
    rintro e v1 ⟨⟨k1, a1, n1', c1⟩, rfl, he1, hb1⟩
    simp only [rv, sv]
    go_upto_region 13 with fail
    obtain ⟨v1', hv1⟩ : ∃ v1', v1' = v1.alloc (.cells #[.int .i64 k1, .slice a1 n1' c1] 33) := ⟨_, rfl⟩
    have hb1' : Below v1.heap.size v1 v1' := by rw [hv1]; exact one_below _ _
    have hr1 : RegAt v1' v1.heap.size (k1, a1, n1', c1) := by rw [hv1]; exact RegAt.new v1 (k1, a1, n1', c1)
    obtain ⟨u1, hu1⟩ : ∃ u1, u1 = v1.heap.size := ⟨_, rfl⟩
    rw [← hu1] at hr1
    rw [← hv1, ← hu1]
    have H1 := Lib.hid (And.intro ((below_on hb1 hb1')) (And.intro hr1 (And.intro (he1.below hb1') (below_on hb1 hb1'))))
    clear hv1 hb1' hr1 hu1 he1 hb1 hg1
    go_wp2_with fail
    refine (hg2 _ H1.out.1).mono ?_
    rintro e v2 ⟨⟨k2, a2, n2', c2⟩, rfl, he2, hb2⟩
    simp only [rv, sv]
    go_upto_region 14 with fail
    obtain ⟨v2', hv2⟩ : ∃ v2', v2' = v2.alloc (.cells #[.int .i64 k2, .slice a2 n2' c2] 33) := ⟨_, rfl⟩
    have hb2' : Below v2.heap.size v2 v2' := by rw [hv2]; exact one_below _ _
    have hr2 : RegAt v2' v2.heap.size (k2, a2, n2', c2) := by rw [hv2]; exact RegAt.new v2 (k2, a2, n2', c2)
    obtain ⟨u2, hu2⟩ : ∃ u2, u2 = v2.heap.size := ⟨_, rfl⟩
    rw [← hu2] at hr2
    rw [← hv2, ← hu2]
    have H2 := Lib.hid (And.intro (below_on H1.out.1 (below_on hb2 hb2')) (And.intro hr2 (And.intro (he2.below hb2') (below_on hb2 hb2'))))
    clear hv2 hb2' hr2 hu2 he2 hb2 hg2
    go_wp2_with fail
    refine (hg3 _ H2.out.1).mono ?_
    rintro e v3 ⟨⟨k3, a3, n3', c3⟩, rfl, he3, hb3⟩
    simp only [rv, sv]
    go_upto_region 15 with fail
    obtain ⟨v3', hv3⟩ : ∃ v3', v3' = v3.alloc (.cells #[.int .i64 k3, .slice a3 n3' c3] 33) := ⟨_, rfl⟩
    have hb3' : Below v3.heap.size v3 v3' := by rw [hv3]; exact one_below _ _
    have hr3 : RegAt v3' v3.heap.size (k3, a3, n3', c3) := by rw [hv3]; exact RegAt.new v3 (k3, a3, n3', c3)
    obtain ⟨u3, hu3⟩ : ∃ u3, u3 = v3.heap.size := ⟨_, rfl⟩
    rw [← hu3] at hr3
    rw [← hv3, ← hu3]
    have H3 := Lib.hid (And.intro (below_on H2.out.1 (below_on hb3 hb3')) (And.intro hr3 (And.intro (he3.below hb3') (below_on hb3 hb3'))))
    clear hv3 hb3' hr3 hu3 he3 hb3 hg3
    have hz : n3' = 0 := H3.out.2.2.1.len.symm
    subst hz
    have q0 := H3.out.2.1.c0
    have q1 : v3'.cell? ⟨u3, 1, none⟩ = some (.slice a3 0 c3) := H3.out.2.1.c1
    have HE := Lib.hid (HU.out.2.2.2.2.2.trans (H3.out.1.mono HU.out.2.2.2.2.2.size))
    go_wp2
    go_ret
    exact ⟨rfl, HE.out⟩
  · have f1 : (97 : Int) ≤ (c : Int) := by omega
    have f2 : ¬ (c : Int) ≤ 122 := by omega
    have f3 : (65 : Int) ≤ (c : Int) := by omega
    have f4 : ¬ (c : Int) ≤ 90 := by omega
    have f5 : ((c : Int) == 0) = false := by rw [beq_eq_false_iff_ne]; omega
    have f6 : ((c : Int) == 34) = false := by rw [beq_eq_false_iff_ne]; omega
    have f7 : ((c : Int) == 95) = false := by rw [beq_eq_false_iff_ne]; omega
    clear hcc hc256
    subst h1 h2 h3
    clear HC
    have hg1 : Calls Try.prog 21 #[.pointer (some ⟨b2 + 1, 0, none⟩), .int .u8 34] U fun e w' => RbOut U B (0, []) false e w' := by
      have h := get_any 34 B (b2 + 1) b2 Y U HU.out.2.1 HK.out.2.1 (by omega) (Nat.le_trans HU.out.2.1.2.1 (Nat.le_of_lt HU.out.2.1.blt))
      rw [show reg 34 = 34 from rfl, HK.out.2.2.2.2.1] at h
      exact h
    have hg2 : ∀ W, Below U.heap.size U W → Calls Try.prog 21 #[.pointer (some ⟨b3 + 1, 0, none⟩), .int .u8 34] W fun e w' => RbOut W B (0, []) false e w' := fun W hW => by
      have hf := HU.out.2.2.1.below hW
      have h := get_any 34 B (b3 + 1) b3 Q W hf HK.out.2.2.1 (by omega) (Nat.le_trans hf.2.1 (Nat.le_of_lt hf.blt))
      rw [show reg 34 = 34 from rfl, HK.out.2.2.2.2.2] at h
      exact h
    have hg3 : ∀ W, Below U.heap.size U W → Calls Try.prog 21 #[.pointer (some ⟨b1 + 1, 0, none⟩), .int .u8 34] W fun e w' => RbOut W B (0, []) false e w' := fun W hW => by
      have hf := HU.out.1.below hW
      have h := get_any 34 B (b1 + 1) b1 P W hf HK.out.1 (by omega) (Nat.le_trans hf.2.1 (Nat.le_of_lt hf.blt))
      rw [show reg 34 = 34 from rfl, HK.out.2.2.2.1] at h
      exact h
    go_wp2_with fail
    refine (hg1).mono ?_
    rintro e v1 ⟨⟨k1, a1, n1', c1⟩, rfl, he1, hb1⟩
    simp only [rv, sv]
    go_upto_region 13 with fail
    obtain ⟨v1', hv1⟩ : ∃ v1', v1' = v1.alloc (.cells #[.int .i64 k1, .slice a1 n1' c1] 33) := ⟨_, rfl⟩
    have hb1' : Below v1.heap.size v1 v1' := by rw [hv1]; exact one_below _ _
    have hr1 : RegAt v1' v1.heap.size (k1, a1, n1', c1) := by rw [hv1]; exact RegAt.new v1 (k1, a1, n1', c1)
    obtain ⟨u1, hu1⟩ : ∃ u1, u1 = v1.heap.size := ⟨_, rfl⟩
    rw [← hu1] at hr1
    rw [← hv1, ← hu1]
    have H1 := Lib.hid (And.intro ((below_on hb1 hb1')) (And.intro hr1 (And.intro (he1.below hb1') (below_on hb1 hb1'))))
    clear hv1 hb1' hr1 hu1 he1 hb1 hg1
    go_wp2_with fail
    refine (hg2 _ H1.out.1).mono ?_
    rintro e v2 ⟨⟨k2, a2, n2', c2⟩, rfl, he2, hb2⟩
    simp only [rv, sv]
    go_upto_region 14 with fail
    obtain ⟨v2', hv2⟩ : ∃ v2', v2' = v2.alloc (.cells #[.int .i64 k2, .slice a2 n2' c2] 33) := ⟨_, rfl⟩
    have hb2' : Below v2.heap.size v2 v2' := by rw [hv2]; exact one_below _ _
    have hr2 : RegAt v2' v2.heap.size (k2, a2, n2', c2) := by rw [hv2]; exact RegAt.new v2 (k2, a2, n2', c2)
    obtain ⟨u2, hu2⟩ : ∃ u2, u2 = v2.heap.size := ⟨_, rfl⟩
    rw [← hu2] at hr2
    rw [← hv2, ← hu2]
    have H2 := Lib.hid (And.intro (below_on H1.out.1 (below_on hb2 hb2')) (And.intro hr2 (And.intro (he2.below hb2') (below_on hb2 hb2'))))
    clear hv2 hb2' hr2 hu2 he2 hb2 hg2
    go_wp2_with fail
    refine (hg3 _ H2.out.1).mono ?_
    rintro e v3 ⟨⟨k3, a3, n3', c3⟩, rfl, he3, hb3⟩
    simp only [rv, sv]
    go_upto_region 15 with fail
    obtain ⟨v3', hv3⟩ : ∃ v3', v3' = v3.alloc (.cells #[.int .i64 k3, .slice a3 n3' c3] 33) := ⟨_, rfl⟩
    have hb3' : Below v3.heap.size v3 v3' := by rw [hv3]; exact one_below _ _
    have hr3 : RegAt v3' v3.heap.size (k3, a3, n3', c3) := by rw [hv3]; exact RegAt.new v3 (k3, a3, n3', c3)
    obtain ⟨u3, hu3⟩ : ∃ u3, u3 = v3.heap.size := ⟨_, rfl⟩
    rw [← hu3] at hr3
    rw [← hv3, ← hu3]
    have H3 := Lib.hid (And.intro (below_on H2.out.1 (below_on hb3 hb3')) (And.intro hr3 (And.intro (he3.below hb3') (below_on hb3 hb3'))))
    clear hv3 hb3' hr3 hu3 he3 hb3 hg3
    have hz : n3' = 0 := H3.out.2.2.1.len.symm
    subst hz
    have q0 := H3.out.2.1.c0
    have q1 : v3'.cell? ⟨u3, 1, none⟩ = some (.slice a3 0 c3) := H3.out.2.1.c1
    have HE := Lib.hid (HU.out.2.2.2.2.2.trans (H3.out.1.mono HU.out.2.2.2.2.2.size))
    go_wp2
    go_ret
    exact ⟨rfl, HE.out⟩
end Go.Proofs.Ytgfajagajiofnaa.RNa
