/-
  What the law's own example says of indexes: it holds in whatever world.
-/
import Derived.Test.YtndfbjpgbpcimaaLd
set_option linter.unusedVariables false
namespace Go.Proofs.Ytndfbjpgbpcimaa.Lx
open Go Go.RowKit Go.Proofs.Ytndfbjpgbpcimaa.Vk Go.Proofs.Ytndfbjpgbpcimaa.Lm Go.Shelf
open VecI (E)

set_option maxHeartbeats 1000000 in
set_option maxRecDepth 100000 in
theorem known_any (w : World) : Calls Try.prog 8 #[] w fun e w' => e = .returned (.bool true) ∧ Below w.heap.size w w' := by
  go_enter Try.func8, Try.ntmps8
  go_wp2_with fail
  refine (new_any ⟨#[97, 10, 98]⟩ w (by decide)).mono ?_
  rintro e w1 ⟨p, F, rfl, hi, hb⟩
  obtain ⟨t, ht⟩ : ∃ t : List UInt8, t = [97, 10, 98] := ⟨_, rfl⟩
  rw [show ((⟨#[97, 10, 98]⟩ : ByteArray).data.toList) = t from ht.symm] at hi
  have hl := hi.lines
  have hn := hi.len
  have hs := hi.start 1 (by rw [ht]; decide) (by rw [ht]; decide)
  have ha := hi.at 1 (by rw [ht]; decide) (by rw [ht]; decide)
  rw [show (st t).length = 2 by rw [ht]; rfl] at hl
  rw [show t.length = 3 by rw [ht]; rfl] at hn
  rw [show at0 t 1 = 2 by rw [ht]; rfl] at hs
  rw [show ln t 1 = 0 by rw [ht]; rfl, show 1 - at0 t 0 = 1 by rw [ht]; rfl] at ha
  have HI := Lib.hid hi
  have HB := Lib.hid hb
  have hs1 := hb.size
  clear hi hb
  go_wp2_with fail
  refine hl.mono ?_
  rintro e w' ⟨rfl, rfl⟩
  go_wp2_with fail
  refine hn.mono ?_
  rintro e w' ⟨rfl, rfl⟩
  go_wp2_with fail
  refine hs.mono ?_
  rintro e w' ⟨rfl, rfl⟩
  go_wp2_with fail
  refine ha.mono ?_
  rintro e w2 ⟨rfl, hb2⟩
  have hs2 := hb2.size
  have HB2 := Lib.hid hb2
  clear hl hn hs ha hb2
  obtain ⟨W, hW⟩ : ∃ W, W = w2.alloc (.cells #[.int .i64 0, .int .i64 1] 33) := ⟨_, rfl⟩
  have hbW : Below w.heap.size w W := by rw [hW]; exact (HB.out.trans (HB2.out.mono hs1)).alloc (by omega) _
  have hiW : Idx W w.heap.size p F t := by rw [hW]; exact (HI.out.below HB2.out).fr ((Fr.refl (fun _ => False) w2).alloc _) (by simp)
  have hpW : W.heap[w2.heap.size]? = some (.cells #[.int .i64 0, .int .i64 1] 33 (0, 0)) := by rw [hW]; exact heap_alloc_new w2 _
  have hsW : W.heap.size = w2.heap.size + 1 := by rw [hW]; simp
  have ho := hiW.off 1 1 (by rw [ht]; decide) (by rw [ht]; decide) (by rw [ht]; decide)
  rw [show at0 t 1 + 1 = 3 by rw [ht]; rfl, hW] at ho
  have HIW := Lib.hid (And.intro hiW (And.intro hbW hpW))
  clear hiW hbW hpW
  go_wp2_with fail
  refine ho.mono ?_
  rintro e w3 ⟨rfl, hb3⟩
  rw [← hW] at hb3
  have hi3 := HIW.out.1.below hb3
  have hp3 := (hb3.block _ (by omega)).trans HIW.out.2.2
  have hs3 := hb3.size
  have hoo := hi3.offOut 0 2 (fun k hk h1 _ => by
    obtain rfl : k = 0 := by omega
    rw [ht]; decide) (by rw [ht]; decide)
  have HI3 := Lib.hid (And.intro hi3 (And.intro (HIW.out.2.1.trans (hb3.mono (by omega))) hp3))
  clear hi3 hp3 hb3 ho
  go_wp2_with fail
  refine hoo.mono ?_
  rintro e w4 ⟨rfl, hb4⟩
  have hi4 := HI3.out.1.below hb4
  have hp4 := (hb4.block _ (by omega)).trans HI3.out.2.2
  have hs4 := hb4.size
  have hb4w : Below w.heap.size w w4 := HI3.out.2.1.trans (hb4.mono (by omega))
  have c0 : w4.cell? ⟨w2.heap.size, 0, none⟩ = some (.int .i64 0) := (cell_of_row _ _ 0 _ _ _ hp4).trans (by simp)
  have c1 : w4.cell? ⟨w2.heap.size, 1, none⟩ = some (.int .i64 1) := (cell_of_row _ _ 1 _ _ _ hp4).trans (by simp)
  have hins := insert_yes hi4 1 ⟨#[10]⟩ (by rw [ht]; decide) (by rw [ht]; decide)
  have HI4 := Lib.hid (And.intro hi4 hb4w)
  clear hi4 hp4 hb4 hb4w hoo
  go_wp2_with fail
  refine hins.mono ?_
  rintro e w5 ⟨rfl, hc⟩
  have hb5 := hc.below (B := w.heap.size) HI4.out.2.size (fun k hk => (HI4.out.1.footLt k hk).1)
  obtain ⟨F5, hi5, -, -⟩ := hc
  have hl5 := hi5.lines
  rw [show (st (t.take 1 ++ (⟨#[10]⟩ : ByteArray).data.toList ++ t.drop 1)).length = 3 by rw [ht]; rfl] at hl5
  have HB5 := Lib.hid (HI4.out.2.trans hb5)
  clear hi5 hb5 hins c0 c1
  go_wp2_with fail
  refine hl5.mono ?_
  rintro e w' ⟨rfl, rfl⟩
  go_wp2
  go_ret
  exact ⟨rfl, HB5.out⟩

end Go.Proofs.Ytndfbjpgbpcimaa.Lx
