/-
  Tables of pieces, told by their text alone: Delete.
-/
import Derived.Test.YtfllgmgipmmpkaaGreatDoorTable
set_option linter.unusedVariables false
set_option linter.unusedSimpArgs false
set_option maxRecDepth 100000
namespace Go.Proofs.YtfllgmgipmmpkaaGreatDoor.Tb
open Go Go.RowKit Go.Proofs.YtfllgmgipmmpkaaGreatDoor.Vk Go.Shelf
open VecP (E TV)

section
variable {w : World} {base t : Nat} {F : Nat → Prop} {T : List UInt8} {most : Int} {edits np used : Nat}

theorem delete_place (h : Tab w base t F T most edits np used) (off n : Int) (ho : ¬ inside T off n) :
    Calls Tryz.prog 53 #[.pointer (some ⟨t, 0, none⟩), .int .i64 off, .int .i64 n] w fun e w' => e = .returned (.int .i64 20) ∧ w = w' := by
  have hh := thas_no h ho
  clear h
  go_enter Tryz.func53, Tryz.ntmps53
  go_wp2_with (go_at_call 60; refine hh.mono ?_; rintro e w' ⟨rfl, rfl⟩)
  go_ret
  exact ⟨rfl, rfl⟩

theorem delete_zero (h : Tab w base t F T most edits np used) (off : Int) (ho : inside T off 0) :
    Calls Tryz.prog 53 #[.pointer (some ⟨t, 0, none⟩), .int .i64 off, .int .i64 0] w fun e w' => e = .returned (.int .i64 0) ∧ w = w' := by
  have hh := thas_yes h ho
  clear h
  go_enter Tryz.func53, Tryz.ntmps53
  go_wp2_with (go_at_call 60; refine hh.mono ?_; rintro e w' ⟨rfl, rfl⟩)
  go_ret
  exact ⟨rfl, rfl⟩

set_option maxHeartbeats 1000000 in
theorem delete_some (h : Tab w base t F T most edits np used) (off n : Nat) (hn : 0 < n) (ho : off + n ≤ T.length) (hT : T.length ≤ 100000) (hu : used ≤ 100000) :
    Calls Tryz.prog 53 #[.pointer (some ⟨t, 0, none⟩), .int .i64 off, .int .i64 n] w fun e w' => e = .returned (.int .i64 0) ∧
      Changed w base t F (T.take off ++ T.drop (off + n)) most (edits + 1) (used + 1) w' := by
  have hh := thas_yes h (off := off) (n := n) ⟨by omega, by omega, by omega, by omega⟩
  obtain ⟨h1, h2, h3, h4, -⟩ := h.facts
  obtain ⟨p, r, b0, c0, l0, b1, c1, l1, ps, hx, rfl, hl, rfl⟩ := h
  have hsplit := split_any hx off (by omega) (by omega) (by omega) (by omega)
  have HX := Lib.hid hx
  clear hx
  have hn0 : ((n : Int) == 0) = false := by simp; omega
  go_enter Tryz.func53, Tryz.ntmps53
  go_wp2_with (go_at_call 60; refine hh.mono ?_; rintro e w' ⟨rfl, rfl⟩)
  refine hsplit.mono ?_
  rintro e w1 ⟨i, rfl, r1, qs, hx1, hp1, hf1, hr1⟩
  obtain ⟨k0, k1, k2, k3, k4, k5⟩ := hx1.cells
  have hlt1 : t < w1.heap.size := (hx1.foot_lt (.inl rfl)).2
  have hsplit2 := split_any (hx1.fr (Fr.drew (Fr.refl (fun _ => False) w1)) (by simp)) (off + n) ho (by omega) (by have := hp1.few; omega) (by omega)
  have hci : ((off + n : Nat) : Int) = (off : Int) + n := by omega
  rw [hci] at hsplit2
  have hw_1 : IntKind.i64.wrap ((off : Int) + n) = (off : Int) + n := by rw [IntKind.wrap_i64]; omega
  have H1 := Lib.hid (And.intro hx1 (And.intro hp1 (And.intro hf1 hr1)))
  have HS2 := Lib.hid hsplit2
  clear hx1 hp1 hf1 hr1 k0 k1 k3 k4 k5 hsplit hsplit2 hci hh
  go_wp2
  go_region_held3 (fun w' => w'.cell? ⟨t, 2, none⟩ = some (.pointer (some ⟨p, 0, none⟩)))
      (first | go_keep | exact d1)
      (first
        | (go_at_call 76; refine HS2.out.mono ?_
           rintro e w2 ⟨j, rfl, r2, rs, hx2, hp2, hf2, hr2⟩
           obtain ⟨hij, hjl, hok, htx, hfew⟩ := cut_txt H1.out.2.1 hp2 hn
           have d1 := hx2.cells.2.2.1
           have hw_2 : IntKind.i64.wrap ((j : Int) - i) = (j : Int) - i := by
             have := hp2.few
             have := H1.out.2.1.few
             rw [IntKind.wrap_i64]; omega
           have hdel := VecP.delete_some base p r2 rs i j w2 hx2.vec hij hjl (by have := hp2.few; have := H1.out.2.1.few; omega)
           have H2 := Lib.hid (And.intro hx2 (And.intro hp2 (And.intro hf2 (And.intro hr2 (And.intro hok (And.intro htx hfew))))))
           clear hx2 hp2 hf2 hr2 hok htx hfew)
        | (go_at_call 77; refine hdel.mono ?_
           rintro e w3 ⟨⟨v, rfl⟩, hv3, hf3⟩
           have d1 : w3.cell? ⟨t, 2, none⟩ = some (.pointer (some ⟨p, 0, none⟩)) := hf3.cell H2.out.1.cells.2.2.1 (fun e => e.elim H2.out.1.tp H2.out.1.tr)
           have H3 := Lib.hid (And.intro hv3 hf3)
           clear hv3 hf3))
  obtain ⟨hx2, hp2, hf2, hr2, hok, htx, hfew⟩ := H2.out
  obtain ⟨hv3, hf3⟩ := H3.out
  obtain ⟨hx1, hp1, hf1, hr1⟩ := H1.out
  have hhead : w3.heap[t]? = some (.cells #[.slice b0 l0.length c0, .slice b1 l1.length c1, .pointer (some ⟨p, 0, none⟩), .int .i64 T.length, .int .i64 most, .int .i64 edits] TT (0, 0)) :=
    (hf3.block t (hx2.foot_lt (.inl rfl)).2 (fun e => e.elim hx2.tp hx2.tr)).trans hx2.head
  have q3 : w3.cell? ⟨t, 3, none⟩ = some (.int .i64 T.length) := (cell_of_row _ _ 3 _ _ _ hhead).trans (by simp)
  have q5 : w3.cell? ⟨t, 5, none⟩ = some (.int .i64 edits) := (cell_of_row _ _ 5 _ _ _ hhead).trans (by simp)
  have z3 : w3.frozen? ⟨t, 3, none⟩ = false := frozen_of_row _ _ 3 _ _ hhead
  have z5 : w3.frozen? ⟨t, 5, none⟩ = false := frozen_of_row _ _ 5 _ _ hhead
  rw [HX.out.text] at htx
  have hlen : (T.take off ++ T.drop (off + n)).length + n = T.length := by simp; omega
  have hx4 := hx2.cut hf3 hv3 hok htx hlen
  have hs0 := hf1.size
  have hs1 : w1.heap.size ≤ w2.heap.size := hf2.size
  have hft1 : ∀ k, foot t p r1 b0 b1 k → foot t p r b0 b1 k ∨ w.heap.size ≤ k := by
    rintro k (h | h | h | h | h)
    · exact .inl (.inl h)
    · exact .inl (.inr (.inl h))
    · rcases hr1 with h' | ⟨g, h', hg⟩
      · exact .inl (.inr (.inr (.inl (h' ▸ h))))
      · rw [h'] at h; injection h with h; exact .inr (by omega)
    · exact .inl (.inr (.inr (.inr (.inl h))))
    · exact .inl (.inr (.inr (.inr (.inr h))))
  have hft2 : ∀ k, foot t p r2 b0 b1 k → foot t p r b0 b1 k ∨ w.heap.size ≤ k := by
    rintro k (h | h | h | h | h)
    · exact .inl (.inl h)
    · exact .inl (.inr (.inl h))
    · rcases hr2 with h' | ⟨g, h', hg⟩
      · exact hft1 k (.inr (.inr (.inl (h' ▸ h))))
      · have hg' : w1.heap.size ≤ g := hg
        rw [h'] at h; injection h with h; exact .inr (by omega)
    · exact .inl (.inr (.inr (.inr (.inl h))))
    · exact .inl (.inr (.inr (.inr (.inr h))))
  have fpr : ∀ r' : Option Nat, ∀ k, (k = p ∨ r' = some k) → foot t p r' b0 b1 k := fun r' k h => h.elim (fun h => .inr (.inl h)) (fun h => .inr (.inr (.inl h)))
  have hfr1 : Fr (foot t p r b0 b1) w w1 := hf1.mono (fun k _ h => fpr r k h)
  have hfr2 : Fr (foot t p r b0 b1) w w2 := (hfr1.trans (Fr.drew (Fr.refl _ w1))).trans' hf2 (fun k hk h => (hft1 k (fpr r1 k h)).elim id (fun h => by omega))
  have hfr3 : Fr (foot t p r b0 b1) w w3 := hfr2.trans' hf3 (fun k hk h => (hft2 k (fpr r2 k h)).elim id (fun h => by omega))
  have hwn : IntKind.i64.wrap ((T.length : Int) - n) = (T.length : Int) - n := by rw [IntKind.wrap_i64]; omega
  have H5 := Lib.hid (And.intro hx4 (And.intro hfr3 (And.intro hft2 (And.intro hfew hp1.few))))
  clear hx4 hfr3 hfr2 hfr1 hft2 hft1 hhead hx2 hp2 hf2 hr2 hok htx hfew hv3 hf3 hx1 hp1 hf1 hr1 hlen fpr d1 k2 hw_1 hw_2 hdel
  go_wp2
  go_ret
  obtain ⟨hx4, hfr3, hft2, hfew, hfew1⟩ := H5.out
  refine ⟨rfl, _, _, ⟨_, _, _, _, _, _, _, _, _, hx4, rfl, by omega, rfl⟩, (hfr3.setCell (fun _ => .inl rfl) _).setCell (fun _ => .inl rfl) _, hft2⟩
end
end Go.Proofs.YtfllgmgipmmpkaaGreatDoor.Tb
