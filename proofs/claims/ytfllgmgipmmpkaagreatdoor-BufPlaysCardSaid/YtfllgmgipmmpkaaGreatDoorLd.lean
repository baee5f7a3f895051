/-
  Indexes of lines told by their text: Delete, New; what is asked of them.
-/
import Derived.Test.YtfllgmgipmmpkaaGreatDoorLe
set_option linter.unusedVariables false
set_option linter.unusedSimpArgs false
set_option maxRecDepth 100000
namespace Go.Proofs.YtfllgmgipmmpkaaGreatDoor.Lx
open Go Go.RowKit Go.Proofs.YtfllgmgipmmpkaaGreatDoor.Vk Go.Proofs.YtfllgmgipmmpkaaGreatDoor.Lm Go.Shelf
open VecI (E)
variable {w w' : World} {base p : Nat} {F : Nat → Prop} {t : List UInt8}

theorem ln_take (t : List UInt8) (i k : Nat) (h : i ≤ k) : ln (t.take k) i = ln t i := by
  unfold ln; rw [List.take_take, Nat.min_eq_left h]

set_option maxHeartbeats 1000000 in
theorem delete_yes (h : Idx w base p F t) (off n : Nat) (ho : off + n ≤ t.length) (hT : t.length ≤ 400000) :
    Calls Tryz.prog 54 #[.pointer (some ⟨p, 0, none⟩), .int .i64 off, .int .i64 n] w fun e w' => e = .returned (.bool true) ∧ IChanged w base p F (t.take off ++ t.drop (off + n)) w' := by
  obtain ⟨q, r, hF, hx⟩ := h
  have hh := has_any hx off n (by omega) (by omega)
  rw [decide_eq_true (by omega)] at hh
  have ha := sti_after hx (off + n) ho (by omega)
  have hfoot := hx.footLt
  have HX := Lib.hid hx
  have hpl := hx.lt
  obtain ⟨m, hm⟩ : ∃ m, m = ln t (off + n) + 1 := ⟨_, rfl⟩
  rw [← hm, show ((off + n : Nat) : Int) = (off : Int) + n by omega] at ha
  have HM := Lib.hid hm
  have hw1 : IntKind.i64.wrap ((off : Int) + n) = (off : Int) + n := by rw [IntKind.wrap_i64]; omega
  have hw2 : IntKind.i64.wrap (-(n : Int)) = -(n : Int) := by rw [IntKind.wrap_i64]; omega
  clear hx hm
  go_enter Tryz.func54, Tryz.ntmps54
  go_wp2_with fail
  refine hh.mono ?_
  rintro e w' ⟨rfl, rfl⟩
  go_wp2_with fail
  refine ha.mono ?_
  rintro e w1 ⟨rfl, hb1⟩
  have hx1 := HX.out.below hb1
  have hml : m ≤ (sti t).length := by rw [HM.out, sti_length]; have := ln_lt t (off + n); omega
  have hlen : (sti t).length ≤ t.length + 1 := by rw [sti_length]; exact st_length_le t
  have hcut := cut_any hx1 m hml (by omega)
  have HB1 := Lib.hid hb1
  have hs1 := hb1.size
  clear hb1 hx1 ha hh
  go_wp2_with fail
  refine hcut.mono ?_
  rintro e w2 ⟨b, c, rfl, ho2, hx2, hf2⟩
  have hs2 := hf2.size
  have htk : (sti t).take m = sti (t.take (off + n)) := by rw [HM.out]; exact sti_take t (off + n) ho
  have hdr : (sti t).drop m = (bg (off + n) (t.drop (off + n))).map Int.ofNat := by rw [HM.out]; exact sti_drop t (off + n) ho
  rw [htk] at hx2
  obtain ⟨xs, hxs⟩ : ∃ xs, xs = (sti t).drop m := ⟨_, rfl⟩
  have hxl : (sti t).length - m = xs.length := by rw [hxs]; simp
  rw [← hxs, hxl] at ho2
  rw [hxl]
  have htl : (t.take (off + n)).length = off + n := by rw [List.length_take]; omega
  have ha2 := sti_after hx2 off (by omega) (by omega)
  rw [ln_take t off (off + n) (by omega)] at ha2
  obtain ⟨m2, hm2⟩ : ∃ m2, m2 = ln t off + 1 := ⟨_, rfl⟩
  rw [← hm2] at ha2
  have HM2 := Lib.hid hm2
  have HO2 := Lib.hid ho2
  have HX2 := Lib.hid hx2
  have HF2 := Lib.hid hf2
  have HXS := Lib.hid hxs
  have HTK := Lib.hid (And.intro htk hdr)
  clear ho2 hx2 hf2 hxs htk hdr hcut hxl hm2
  go_wp2_with fail
  refine ha2.mono ?_
  rintro e w3 ⟨rfl, hb3⟩
  have hx3 := HX2.out.below hb3
  have hl3 : (sti (t.take (off + n))).length ≤ off + n + 1 := by rw [sti_length]; have := st_length_le (t.take (off + n)); omega
  have hml2 : m2 ≤ (sti (t.take (off + n))).length := by
    rw [HM2.out, sti_length]
    have := ln_lt (t.take (off + n)) off
    rw [ln_take t off (off + n) (by omega)] at this
    omega
  have hcut2 := cut_any hx3 m2 hml2 (by omega)
  have HB3 := Lib.hid hb3
  have hs3 := hb3.size
  clear hb3 hx3 ha2
  go_wp2_with fail
  refine hcut2.mono ?_
  rintro e w4 ⟨b4, c4, rfl, -, hx4, hf4⟩
  have hs4 := hf4.size
  have htk4 : (sti (t.take (off + n))).take m2 = sti (t.take off) := by
    have := sti_take (t.take (off + n)) off (by omega)
    rw [ln_take t off (off + n) (by omega), List.take_take, Nat.min_eq_left (by omega)] at this
    rw [HM2.out]; exact this
  rw [htk4] at hx4
  have hql := (hfoot q (.inr (.inl rfl))).2
  have hdis : ∀ k, (Value.slice b xs.length c).ownBlock = some k → k ≠ q ∧ r ≠ some k := fun k hk => by
    have := (HO2.out.lt k hk).1
    exact ⟨by omega, fun e => by have := (hfoot k (.inr (.inr e))).2; omega⟩
  have ho4 := ownsRow_fr (ownsRow_fr HO2.out (Fr.ofBelow HB3.out (fun _ => False)) (by simp)) hf4 (fun k hk e => e.elim (hdis k hk).1 (hdis k hk).2)
  have hxl : xs.length ≤ t.length := by rw [HXS.out, HTK.out.2, List.length_map]; have := bg_le_length (t.drop (off + n)) (off + n); simp at this; omega
  have hl4 : (sti (t.take off)).length ≤ off + 1 := by rw [sti_length]; have := st_length_le (t.take off); rw [List.length_take] at this; omega
  have hadd4 := add_tail hx4 b c xs _ ho4 hdis (-(n : Int)) (fun x hx => by
    rw [HXS.out, HTK.out.2] at hx
    obtain ⟨k, hk, rfl⟩ := List.mem_map.1 hx
    have h1 := bg_gt hk
    rw [List.length_drop] at h1
    show _ ≤ (k : Int) + _ ∧ (k : Int) + _ ≤ _
    omega) (by omega)
  have HF4 := Lib.hid hf4
  clear hx4 hf4 ho4 hdis hcut2 htk4
  go_wp2_with (first | (go_at_call 74; refine (values_new _ _ _ _).mono ?_; rintro e w' ⟨rfl, rfl⟩) | (go_at_call 72; fail))
  refine hadd4.mono ?_
  rintro e w6 ⟨⟨v6, rfl⟩, r6, hx6, hf6, hr6⟩
  have hlist : sti (t.take off) ++ xs.map (· + (-(n : Int))) = sti (t.take off ++ t.drop (off + n)) := by
    rw [HXS.out, HTK.out.2]
    exact sti_delete t off n ho
  rw [hlist] at hx6
  obtain ⟨k0, k1⟩ := hx6.cells
  have f1 : w6.frozen? ⟨p, 1, none⟩ = false := frozen_of_row _ _ 1 _ _ hx6.head
  have hw3 : IntKind.i64.wrap ((t.length : Int) - n) = (t.length : Int) - n := by rw [IntKind.wrap_i64]; omega
  have hs6 := hf6.size
  have HX6 := Lib.hid (And.intro hx6 (And.intro hf6 hr6))
  clear hx6 hf6 hr6 hadd4 hlist
  go_wp2
  go_ret
  obtain ⟨hx6, hf6, hr6⟩ := HX6.out
  have hr6' : r6 = r ∨ ∃ g, r6 = some g ∧ w.heap.size ≤ g := by
    rcases hr6 with h | ⟨g, h, hg⟩
    · exact .inl h
    · exact .inr ⟨g, h, by omega⟩
  have hff : Fr F w w6 := by
    have h1 : Fr (fun b => b = q ∨ r = some b) w w6 := (Fr.ofBelow HB1.out _).trans (HF2.out.trans ((Fr.ofBelow HB3.out _).trans (HF4.out.trans hf6)))
    exact h1.mono (fun k _ e => by rw [hF]; exact e.elim (fun e => .inr (.inl e)) (fun e => .inr (.inr e)))
  refine ⟨rfl, foot p q r6, ⟨q, r6, rfl, ?_⟩, hff.setCell (p := ⟨p, 1, none⟩) (fun _ => by rw [hF]; exact .inl rfl) _, fun k hk => ?_⟩
  · have h7 := hx6.resize ((t.length : Int) - n)
    have e : (((t.take off ++ t.drop (off + n)).length : Nat) : Int) = (t.length : Int) - n := by
      simp; omega
    rw [e]; exact h7
  · rw [hF]
    rcases hk with hk | hk | hk
    · exact .inl (.inl hk)
    · exact .inl (.inr (.inl hk))
    · rcases hr6' with h | ⟨g, h, hg⟩
      · exact .inl (.inr (.inr (h ▸ hk)))
      · rw [h] at hk; injection hk with hk; exact .inr (by omega)

/-- New. -/
theorem new_any (s : ByteArray) (w : World) (hs : s.size ≤ 400000) :
    Calls Tryz.prog 28 #[.string s] w fun e w' => ∃ p F, e = .returned (.pointer (some ⟨p, 0, none⟩)) ∧ Idx w' w.heap.size p F s.data.toList ∧ Below w.heap.size w w' := by
  go_enter Tryz.func28, Tryz.ntmps28
  go_wp2_with fail
  refine (VecI.new_any _ 1 [.int .i64 0] _ (SrcV.lit w #[.int .i64 0] _ 1 rfl (by simp [Value.oneCell']) (by simp [maxLen])) (by omega)).mono ?_
  rintro e w1 ⟨q, r, rfl, hv, hb⟩
  have hv := hv.mono (base' := w.heap.size) (by simp)
  have hb := (((Below.refl _ w).alloc (Nat.le_refl _) _).trans (hb.mono (by simp)) : Below w.heap.size w w1)
  obtain ⟨W, hW⟩ : ∃ W, W = w1.alloc (.cells #[.pointer (some ⟨q, 0, none⟩), .int .i64 0] TI) := ⟨_, rfl⟩
  have hlt := hv.lt
  have hrl := hv.rowLt
  have hbW : Below w.heap.size w W := by rw [hW]; exact hb.alloc hb.size _
  have hs1 := hb.size
  have hx : Idx W w.heap.size w1.heap.size (foot w1.heap.size q r) [] := by
    refine ⟨q, r, rfl, ?_, hs1, ?_, by omega, fun e => by have := (hrl _ e).2; omega⟩
    · rw [hW]; exact heap_alloc_new w1 _
    · rw [hW]; exact hv.fr ((Fr.refl (fun _ => False) w1).alloc _) (by simp) (by simp)
  have hins := insert_yes hx 0 s (by simp) (by simp; omega)
  rw [hW] at hins
  have HX := Lib.hid hx
  have HB := Lib.hid hbW
  clear hx hbW hv hb
  go_wp2_with fail
  refine hins.mono ?_
  rintro e w2 ⟨rfl, hc⟩
  rw [← hW] at hc
  have hb2 := hc.below (B := w.heap.size) HB.out.size (fun k hk => (HX.out.footLt k hk).1)
  obtain ⟨F', hi', -, -⟩ := hc
  have HI := Lib.hid (And.intro hi' hb2)
  clear hi' hb2 hins
  go_wp2
  go_ret
  refine ⟨w1.heap.size, F', rfl, ?_, HB.out.trans HI.out.2⟩
  have := HI.out.1
  simpa using this

/-! What is asked of an index, told by its text. -/
theorem Idx.lines (h : Idx w base p F t) : Calls Tryz.prog 40 #[.pointer (some ⟨p, 0, none⟩)] w fun e w' => e = .returned (.int .i64 (st t).length) ∧ w = w' := by
  obtain ⟨q, r, hF, hx⟩ := h
  have := lines_any hx
  rwa [sti_length] at this
theorem Idx.start (h : Idx w base p F t) (k : Nat) (hk : k < (st t).length) (hT : t.length ≤ 400000) : Calls Tryz.prog 30 #[.pointer (some ⟨p, 0, none⟩), .int .i64 k] w fun e w' => e = .returned (.tuple #[.int .i64 (at0 t k), .bool true]) ∧ w = w' := by
  obtain ⟨q, r, hF, hx⟩ := h
  have hl := st_length_le t
  have := start_in hx k (by rw [sti_length]; exact hk) (by rw [sti_length]; omega)
  rwa [sti_getD] at this
theorem Idx.startOut (h : Idx w base p F t) (i : Int) (hi : ¬ (0 ≤ i ∧ i < (st t).length)) : Calls Tryz.prog 30 #[.pointer (some ⟨p, 0, none⟩), .int .i64 i] w fun e w' => e = .returned (.tuple #[.int .i64 0, .bool false]) ∧ w = w' := by
  obtain ⟨q, r, hF, hx⟩ := h
  exact start_out hx i (by rw [sti_length]; exact hi)
theorem szOf_sti (t : List UInt8) (k : Nat) (hk : k < (st t).length) : szOf (sti t) t.length k = (sz t k : Nat) := by
  unfold szOf sz
  rw [sti_length, sti_getD, sti_getD]
  have h1 := at0_bound t k hk
  split
  · next h =>
    have := st_sorted t k (k + 1) (by omega) h
    omega
  · omega
theorem sti_bounds (t : List UInt8) (hT : t.length ≤ 400000) (j : Nat) : 0 ≤ (sti t).getD j 0 ∧ (sti t).getD j 0 ≤ 1000000000 := by
  rw [sti_getD]; have := at0_le_length t j; omega
theorem Idx.size (h : Idx w base p F t) (k : Nat) (hk : k < (st t).length) (hT : t.length ≤ 400000) : Calls Tryz.prog 38 #[.pointer (some ⟨p, 0, none⟩), .int .i64 k] w fun e w' => e = .returned (.tuple #[.int .i64 (sz t k), .bool true]) ∧ w = w' := by
  obtain ⟨q, r, hF, hx⟩ := h
  have hl := st_length_le t
  have := size_in hx k (by rw [sti_length]; exact hk) (by rw [sti_length]; omega) (sti_bounds t hT) (by omega) (by omega)
  rwa [szOf_sti t k hk] at this
theorem Idx.sizeOut (h : Idx w base p F t) (i : Int) (hi : ¬ (0 ≤ i ∧ i < (st t).length)) : Calls Tryz.prog 38 #[.pointer (some ⟨p, 0, none⟩), .int .i64 i] w fun e w' => e = .returned (.tuple #[.int .i64 0, .bool false]) ∧ w = w' := by
  obtain ⟨q, r, hF, hx⟩ := h
  exact size_out hx i (by rw [sti_length]; exact hi)
end Go.Proofs.YtfllgmgipmmpkaaGreatDoor.Lx
