/-
  The example of the chapter, as the laws of layer 4 ask it.
-/
import Derived.Test.YtfllgmgipmmpkaaGreatDoorBl
import Derived.Test.YtfllgmgipmmpkaaGreatDoorBs
set_option linter.unusedVariables false
set_option linter.unusedSimpArgs false
set_option maxRecDepth 100000
namespace Go.Proofs.YtfllgmgipmmpkaaGreatDoor.Bf
open Go Go.RowKit Go.Proofs.YtfllgmgipmmpkaaGreatDoor.Vk Go.Proofs.YtfllgmgipmmpkaaGreatDoor.Tm Go.Proofs.YtfllgmgipmmpkaaGreatDoor.Tf Go.Proofs.YtfllgmgipmmpkaaGreatDoor.Lm Go.Shelf
attribute [local go_sem] Oper.semAt_some

theorem ss_lit (w : World) (ls : List ByteArray) (t : TypeId) (n : Nat) (hn : ls.length = n) (hm : n ≤ 1000000) : Ss (w.alloc (.cells (ls.map Value.string).toArray t)) (some ⟨w.heap.size, 0, none⟩) n n ls := by
  have := SrcV.lit w (ls.map Value.string).toArray t n (by simpa using hn) (by simp [Value.oneCell']) (by simp only [maxLen]; omega)
  simpa using this

set_option maxHeartbeats 2000000 in
theorem known_any (w : World) (hm : MaxOk w) : Calls Tryz.prog 8 #[] w fun e w' => e = .returned (.bool true) ∧ Below w.heap.size w w' := by
  obtain ⟨W0, hW0⟩ : ∃ W0, W0 = w.alloc (.cells #[.string ⟨#[97]⟩, .string ⟨#[98]⟩] ES) := ⟨_, rfl⟩
  have hs0 : Ss W0 (some ⟨w.heap.size, 0, none⟩) 2 2 [⟨#[97]⟩, ⟨#[98]⟩] := by rw [hW0]; exact ss_lit w [⟨#[97]⟩, ⟨#[98]⟩] ES 2 rfl (by omega)
  have hb0 : Below w.heap.size w W0 := by rw [hW0]; exact (Below.refl _ w).alloc (Nat.le_refl _) _
  have hz0 := hb0.size
  have hnew := new_ok _ 2 2 [⟨#[97]⟩, ⟨#[98]⟩] W0 hs0 (by omega) (by unfold NoLf; decide) (by decide)
  have HB0 := Lib.hid hb0
  clear hs0 hb0
  go_enter Tryz.func8, Tryz.ntmps8
  go_wp2_with fail
  rw [← hW0]
  refine hnew.mono ?_
  rintro e w1 ⟨b, F1, np1, rfl, hbuf1, hb1⟩
  have hz1 := hb1.size
  obtain ⟨ls1, hls1⟩ : ∃ ls1, ls1 = lst [⟨#[97]⟩, ⟨#[98]⟩] := ⟨_, rfl⟩
  rw [← hls1] at hbuf1
  have hl1 : ls1 = [⟨#[97]⟩, ⟨#[98]⟩] := hls1
  obtain ⟨W1, hW1⟩ : ∃ W1, W1 = w1.alloc (.cells #[.string ⟨#[120]⟩, .string ⟨#[121]⟩] ES) := ⟨_, rfl⟩
  have hx1 : Ss W1 (some ⟨w1.heap.size, 0, none⟩) 2 2 [⟨#[120]⟩, ⟨#[121]⟩] := by rw [hW1]; exact ss_lit w1 [⟨#[120]⟩, ⟨#[121]⟩] ES 2 rfl (by omega)
  have hbW1 : Below w1.heap.size w1 W1 := by rw [hW1]; exact (Below.refl _ w1).alloc (Nat.le_refl _) _
  have hzW1 := hbW1.size
  have hr := replace_ok (hbuf1.below hbW1) 0 1 _ 2 2 _ hx1 (by rw [hl1]; decide) (by omega) (by unfold NoLf; decide) (by rw [hl1]; decide) (by rw [hls1]; decide)
  obtain ⟨ls2, hls2⟩ : ∃ ls2, ls2 = rep ls1 0 1 (nw ls1 1 [⟨#[120]⟩, ⟨#[121]⟩]) := ⟨_, rfl⟩
  have hl2 : ls2 = [⟨#[120]⟩, ⟨#[121]⟩, ⟨#[98]⟩] := by rw [hls2, hl1]; rfl
  rw [← hls2] at hr
  obtain ⟨u2, hu2⟩ : ∃ u, u = (jn ls1).length + (jn (nw ls1 1 [⟨#[120]⟩, ⟨#[121]⟩])).length + 2 := ⟨_, rfl⟩
  have hu3 : u2 ≤ 100 := by rw [hu2, hl1]; decide
  rw [← hu2] at hr
  have HB1 := Lib.hid (HB0.out.trans (hb1.mono hz0))
  have HF1 := Lib.hid (fun k hk => hbuf1.lt (k := k) hk)
  clear hnew hbuf1 hx1 hb1 hu2
  go_wp2_with fail
  rw [← hW1]
  refine hr.mono ?_
  rintro e w2 ⟨rfl, F2, ed2, np2, hbuf2, hfr2, hn2⟩
  have hz2 := hfr2.size
  have hb2 : Below w.heap.size w w2 := HB1.out.trans ((hbW1.mono (by omega)).trans (hfr2.below (by omega) (fun k hk => by have := (HF1.out k hk).1; omega)))
  have hpl := replace_place hbuf2 3 1 (.slice none 0 0) (by unfold Has; rw [hl2]; decide)
  obtain ⟨W2, hW2⟩ : ∃ W2, W2 = w2.alloc (.cells #[.string ⟨#[97, 10, 98]⟩] ES) := ⟨_, rfl⟩
  have hx2 : Ss W2 (some ⟨w2.heap.size, 0, none⟩) 1 1 [⟨#[97, 10, 98]⟩] := by rw [hW2]; exact ss_lit w2 [⟨#[97, 10, 98]⟩] ES 1 rfl (by omega)
  have hbW2 : Below w2.heap.size w2 W2 := by rw [hW2]; exact (Below.refl _ w2).alloc (Nat.le_refl _) _
  have hzW2 := hbW2.size
  have hbr := replace_broken (hbuf2.below hbW2) 0 0 _ 1 1 _ hx2 (by rw [hl2]; decide) (by omega) (by unfold NoLf; decide)
  have HBF2 := Lib.hid (hbuf2.below hbW2)
  have HB2 := Lib.hid (hb2.trans (hbW2.mono hb2.size))
  have hzb := hb2.size
  clear hr hbuf2 hfr2 hb2 hn2 hx2
  go_wp2_with fail
  refine hpl.mono ?_
  rintro e w' ⟨rfl, rfl⟩
  clear hpl
  go_wp2_with fail
  rw [← hW2]
  refine hbr.mono ?_
  rintro e w3 ⟨rfl, hb3⟩
  have hbuf3 := HBF2.out.below hb3
  have hz3 := hb3.size
  have hli := line_in hbuf3 1 (by rw [hl2]; decide) (by omega)
  have hl1e : ls2[1]'(by rw [hl2]; decide) = ⟨#[121]⟩ := by subst hl2; rfl
  rw [hl1e] at hli
  have HBF3 := Lib.hid hbuf3
  have HB3 := Lib.hid (HB2.out.trans (hb3.mono (by omega)))
  clear hbr hbuf3 hb3
  go_wp2_with fail
  refine hli.mono ?_
  rintro e w4 ⟨rfl, hb4⟩
  have hz4 := hb4.size
  have hbuf4 := HBF3.out.below hb4
  have hbl4 : Below w.heap.size w w4 := HB3.out.trans (hb4.mono (by omega))
  have hcnt := count_any hbuf4
  have hbyt := bytes_any hbuf4
  rw [show (ls2.length : Int) = 3 by rw [hl2]; rfl] at hcnt
  rw [show ((jn ls2).length : Int) = 6 by rw [hl2]; rfl] at hbyt
  have hsp := split_any ⟨#[97, 10, 10, 98, 10]⟩ [⟨#[97]⟩, ⟨#[]⟩, ⟨#[98]⟩] (by unfold NoLf; decide) (by simp) (by decide) w4 (hm.below hbl4) (by decide)
  obtain ⟨W4, hW4⟩ : ∃ W4, W4 = w4.alloc (.cells #[.string ⟨#[97]⟩, .string ⟨#[]⟩, .string ⟨#[98]⟩] ES) := ⟨_, rfl⟩
  obtain ⟨W5, hW5⟩ : ∃ W5, W5 = W4.alloc (.cells #[.string ⟨#[97]⟩, .string ⟨#[]⟩, .string ⟨#[98]⟩] ES) := ⟨_, rfl⟩
  have hbW4 : Below w4.heap.size w4 W4 := by rw [hW4]; exact (Below.refl _ w4).alloc (Nat.le_refl _) _
  have hzz4 : W4.heap.size = w4.heap.size + 1 := by rw [hW4]; simp
  have hzW4 := hbW4.size
  have hbW5 : Below W4.heap.size W4 W5 := by rw [hW5]; exact (Below.refl _ W4).alloc (Nat.le_refl _) _
  have hzW5 := hbW5.size
  have s4 : Ss W4 (some ⟨w4.heap.size, 0, none⟩) 3 3 [⟨#[97]⟩, ⟨#[]⟩, ⟨#[98]⟩] := by rw [hW4]; exact ss_lit w4 [⟨#[97]⟩, ⟨#[]⟩, ⟨#[98]⟩] ES 3 rfl (by omega)
  have s5 : Ss W5 (some ⟨W4.heap.size, 0, none⟩) 3 3 [⟨#[97]⟩, ⟨#[]⟩, ⟨#[98]⟩] := by rw [hW5]; exact ss_lit W4 [⟨#[97]⟩, ⟨#[]⟩, ⟨#[98]⟩] ES 3 rfl (by omega)
  have hsame := same_any _ 3 3 _ 3 _ W5 (SrcV.below s4 hbW5) s5 (by omega)
  have hb45 : Below w4.heap.size w4 W5 := hbW4.trans (hbW5.mono (by omega))
  have HBF4 := Lib.hid (hbuf4.below hb45)
  have HB4 := Lib.hid (hbl4.trans (hb45.mono hbl4.size))
  have hl4 := hbl4.size
  clear hli hb4 hbuf4 hbl4 s4 s5 hb45
  go_wp2_with fail
  refine hcnt.mono ?_
  rintro e w' ⟨rfl, rfl⟩
  go_wp2_with fail
  refine hbyt.mono ?_
  rintro e w' ⟨rfl, rfl⟩
  have hsp2 := hsp.mono fun e w' h => (⟨h.1, h.2.trans hW4.symm⟩ : e = .returned (.slice (some ⟨w4.heap.size, 0, none⟩) 3 3) ∧ w' = W4)
  have hW5' : W5 = (w4.alloc (.cells #[.string ⟨#[97]⟩, .string ⟨#[]⟩, .string ⟨#[98]⟩] ES)).alloc (.cells #[.string ⟨#[97]⟩, .string ⟨#[]⟩, .string ⟨#[98]⟩] ES) := by rw [hW5, hW4]
  have HW5' := Lib.hid hW5'
  rw [hzz4, hW5'] at hsame
  clear hW5'
  have hpc := pieces_any HBF4.out
  have hed := edits_any HBF4.out
  have hfc := HBF4.out.facts
  go_wp2_with fail
  refine hsp2.mono ?_
  rintro e w' ⟨rfl, rfl⟩
  clear hsp hsp2
  go_wp2_with fail
  refine hsame.mono ?_
  rintro e w6 ⟨rfl, hb6⟩
  rw [← HW5'.out] at hb6
  have hpc6 := pieces_any (HBF4.out.below hb6)
  have hed6 := edits_any (HBF4.out.below hb6)
  have HB6 := Lib.hid (HB4.out.trans (hb6.mono (by omega)))
  have hle4 : np2 ≤ 2 * ed2 + 1 := by omega
  have hed4 : ed2 ≤ 100 := by omega
  have hw_1 : IntKind.i64.wrap (2 * (ed2 : Int)) = 2 * (ed2 : Int) := by rw [IntKind.wrap_i64]; omega
  have hw_2 : IntKind.i64.wrap (2 * (ed2 : Int) + 1) = 2 * (ed2 : Int) + 1 := by rw [IntKind.wrap_i64]; omega
  have hd : decide ((np2 : Int) ≤ 2 * (ed2 : Int) + 1) = true := by simp; omega
  clear hpc hed hsame hb6
  go_wp2_with fail
  refine hpc6.mono ?_
  rintro e w' ⟨rfl, rfl⟩
  go_wp2_with fail
  refine hed6.mono ?_
  rintro e w' ⟨rfl, rfl⟩
  clear hpc6 hed6
  go_wp2
  go_ret
  exact ⟨rfl, HB6.out⟩
end Go.Proofs.YtfllgmgipmmpkaaGreatDoor.Bf
