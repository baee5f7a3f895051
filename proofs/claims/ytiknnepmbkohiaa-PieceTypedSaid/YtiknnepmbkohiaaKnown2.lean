/-
  Slice and All, told of the text; what the laws' own example says.
-/
import Derived.Test.YtiknnepmbkohiaaSlice
set_option linter.unusedVariables false
namespace Go.Proofs.Ytiknnepmbkohiaa.Tb
open Go Go.RowKit Go.Proofs.Ytiknnepmbkohiaa.Vk Go.Shelf
open VecP (E TV)
attribute [local go_sem] Oper.semAt_some

section
variable {w : World} {base t : Nat} {F : Nat → Prop} {T : List UInt8} {most : Int} {edits np used : Nat}

theorem tslice (h : Tab w base t F T most edits np used) (off n : Nat) (ho : off + n ≤ T.length) (hT : T.length ≤ 100000) (hu : used ≤ 400000) :
    Calls Try.prog 14 #[.pointer (some ⟨t, 0, none⟩), .int .i64 off, .int .i64 n] w fun e w' => e = .returned (.tuple #[.string ⟨((T.drop off).take n).toArray⟩, .int .i64 0]) ∧ Below w.heap.size w w' := by
  have hf := h.facts
  obtain ⟨p, r, b0, c0, l0, b1, c1, l1, ps, hx, rfl, hl, rfl⟩ := h
  exact slice_any hx off n ho hT (by omega)

theorem slice_place (h : Tab w base t F T most edits np used) (off n : Int) (ho : ¬ inside T off n) :
    Calls Try.prog 14 #[.pointer (some ⟨t, 0, none⟩), .int .i64 off, .int .i64 n] w fun e w' => e = .returned (.tuple #[.string ⟨#[]⟩, .int .i64 20]) ∧ Below w.heap.size w w' := by
  obtain ⟨W3, hW3⟩ : ∃ W3, W3 = ((w.alloc (.cells #[.pointer (some ⟨t, 0, none⟩)] 24)).alloc (.cells #[.int .i64 off] 3)).alloc (.cells #[.int .i64 n] 3) := ⟨_, rfl⟩
  have hb3 : Below w.heap.size w W3 := by rw [hW3]; exact (((Below.refl _ w).alloc (Nat.le_refl _) _).alloc (by simp only [World.size_alloc]; omega) _).alloc (by simp only [World.size_alloc]; omega) _
  have hh := thas_no (h.below hb3) ho
  have HB3 := Lib.hid hb3
  rw [hW3] at hh
  have HW3 := Lib.hid hW3
  clear h hb3 hW3
  refine (callsIn_wide (n := 9)).1 ?_
  refine callsIn_of_wp_marks Try.func14 rfl trivial ?_ rfl
  simp only [Try.ntmps14, List.size_toArray, List.length_cons, List.length_nil, Nat.reduceAdd, Nat.reduceSub, Array.replicate_succ, Array.replicate_zero, List.push_toArray, List.append_toArray, List.nil_append, List.cons_append]
  refine wpIn_mono (Q := noPanic _) ?_ (noPanic_out _)
  gi_wp2_with (refine ⟨trivial, ?_⟩; gi_at_call 21; refine (callsIn_wide.2 hh).mono ?_; rintro e w' ⟨rfl, rfl⟩)
  refine ⟨.tuple #[.string ⟨#[]⟩, .int .i64 20], ?_, rfl, ?_⟩
  · simp [results, Try.results14, go_sem]
  · rw [← HW3.out]; exact HB3.out

/-- The changes of a text are changes of blocks from base on. -/
theorem Changed.below {T' : List UInt8} {e' u' : Nat} {w' : World} (h : Tab w base t F T most edits np used) (hc : Changed w base t F T' most e' u' w') (hb : base ≤ w.heap.size) : Below base w w' := by
  obtain ⟨F', np', _, hf, _⟩ := hc
  exact hf.below hb (fun k hk => (h.lt hk).1)

end

set_option maxHeartbeats 1000000 in
theorem known_any (w : World) : Calls Try.prog 9 #[] w fun e w' => e = .returned (.bool true) ∧ Below w.heap.size w w' := by
  go_enter Try.func9, Try.ntmps9
  go_wp2_with fail
  refine (new_ok _ 9 w (by decide) (by decide) (by omega)).mono ?_
  rintro e w1 ⟨t, F, np, rfl, ht1, hb1⟩
  have hs1 := hb1.size
  go_wp2_with fail
  refine (insert_some ht1 1 _ (by decide) (by decide) (by decide) (by decide) (by decide)).mono ?_
  rintro e w2 ⟨rfl, hc2⟩
  have hb2 := hb1.trans (hc2.below ht1 hs1)
  obtain ⟨F2, np2, ht2, -, -⟩ := hc2
  have hT2 : (ByteArray.mk #[97, 98]).data.toList.take 1 ++ (ByteArray.mk #[120]).data.toList ++ (ByteArray.mk #[97, 98]).data.toList.drop 1 = [97, 120, 98] := rfl
  rw [hT2] at ht2
  have ht3 : Tab w2 w.heap.size t F2 [97, 120, 98] 9 1 np2 4 := ht2
  have hs2 := hb2.size
  have hnp : (np2 : Int) ≤ 3 := by have := ht3.facts; omega
  have hd : decide ((3 : Int) < (np2 : Int)) = false := by simp; omega
  have hsl := tslice ht3 0 3 (by decide) (by decide) (by decide)
  have hsl2 : ((([97, 120, 98] : List UInt8).drop 0).take 3).toArray = #[97, 120, 98] := rfl
  rw [hsl2] at hsl
  have H3 := Lib.hid ht3
  clear ht1 hb1 hT2 ht2 hsl2 ht3
  go_wp2_with fail
  refine hsl.mono ?_
  rintro e w3 ⟨rfl, hb3⟩
  have h3 := H3.out.below hb3
  have hins := insert_full h3 0 ⟨#[48, 49, 50, 51, 52, 53, 54, 55, 56, 57]⟩ (by decide) (by decide) (by decide) (by decide)
  have hb3' := hb2.trans (hb3.mono hs2)
  have hs3 := hb3'.size
  clear hb3 hsl
  go_wp2_with fail
  refine hins.mono ?_
  rintro e w4 ⟨rfl, hb4⟩
  have h4 := h3.below hb4
  have hb4' := hb3'.trans (hb4.mono hs3)
  have hs4 := hb4'.size
  have hsp := slice_place h4 2 2 (by decide)
  clear hb4 hins h3 hb3'
  go_wp2_with fail
  refine hsp.mono ?_
  rintro e w5 ⟨rfl, hb5⟩
  have h5 := h4.below hb5
  have hb5' := hb4'.trans (hb5.mono hs4)
  have hl5 := tlen h5
  have he5 := tedits h5
  have hp5 := tpieces h5
  have HB5 := Lib.hid hb5'
  clear hb5 hsp h4 h5 hb4' hb5' hb2
  go_wp2_with (first
    | (go_at_call 15; refine hl5.mono ?_; rintro e w' ⟨rfl, rfl⟩)
    | (go_at_call 18; refine he5.mono ?_; rintro e w' ⟨rfl, rfl⟩)
    | (go_at_call 17; refine hp5.mono ?_; rintro e w' ⟨rfl, rfl⟩))
  go_ret
  exact ⟨rfl, HB5.out⟩
end Go.Proofs.Ytiknnepmbkohiaa.Tb
