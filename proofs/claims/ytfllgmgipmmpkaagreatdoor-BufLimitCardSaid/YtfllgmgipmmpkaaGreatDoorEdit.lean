/-
  Tables of pieces: what is split, placed, put in, taken out.
-/
import Derived.Test.YtfllgmgipmmpkaaGreatDoorFind
import Derived.Deep.CutRange
import Derived.Deep.RegionWith
import Derived.Deep.RegionHeld3
import Derived.StillTailTactics
set_option linter.unusedVariables false
set_option linter.unusedSimpArgs false
set_option maxRecDepth 100000
namespace Go.Proofs.YtfllgmgipmmpkaaGreatDoor.Tb
open Go Go.RowKit Go.Proofs.YtfllgmgipmmpkaaGreatDoor.Vk Go.Shelf
open VecP (E TV)

section
variable {w : World} {base t p : Nat} {r : Option Nat} {b0 : Option Addr} {c0 : Nat} {l0 : List UInt8} {b1 : Option Addr} {c1 : Nat} {l1 : List UInt8} {ps : List Pc} {T : List UInt8} {most : Int} {edits used : Nat}

theorem wp_still_tail {P : Program} {id : Nat} {Q : Exit → Act → World → Prop} {a : Act} {w : World} {l : List Oper} (n : Nat) (hm : P.follows .mixedOrders = true) (hB : Region.lexTailB .any l.toArray n = true)
    (h : wpStill P l.toArray w.drew (fun a' => wpList P l.toArray Q (l.drop n) a' w.drew) (l.take n) a) : (Code.region id l.toArray true).wp P Q a w :=
  wp_region_still_tail n hm hB h

/-- Another list of pieces, of the same text. -/
theorem TabX.turn (h : TabX w base t p r b0 c0 l0 b1 c1 l1 ps T most edits used) {w' : World} {r' : Option Nat} {qs : List Pc} {S : Nat → Prop} (hf : Fr S w w') (hS : ∀ k, foot t p r b0 b1 k → k ≠ p → r ≠ some k → ¬ S k) (hv : IsVec w' base TV E 3 p r' qs.length (flat qs))
    (hok : ∀ q ∈ qs, q.ok (bufs l0 l1)) (htx : txt (bufs l0 l1) qs = T) : TabX w' base t p r' b0 c0 l0 b1 c1 l1 qs T most edits used :=
  { h with
    head := (hf.block t (Array.getElem?_eq_some_iff.1 h.head).1 (hS t (.inl rfl) h.tp h.tr)).trans h.head
    row0 := ownsRow_fr h.row0 hf (fun k hk => by
      rw [ab_own] at hk
      exact hS k (.inr (.inr (.inr (.inl hk)))) (fun e => h.p0 (e ▸ hk)) (fun e => h.r0 e hk))
    row1 := ownsRow_fr h.row1 hf (fun k hk => by
      rw [ab_own] at hk
      exact hS k (.inr (.inr (.inr (.inr hk)))) (fun e => h.p1 (e ▸ hk)) (fun e => h.r1 e hk))
    vec := hv
    ok := hok
    text := htx }

/-- What split leaves. -/
def SplitOut (w : World) (base t p : Nat) (r : Option Nat) (b0 : Option Addr) (c0 : Nat) (l0 : List UInt8) (b1 : Option Addr) (c1 : Nat) (l1 : List UInt8) (ps : List Pc) (T : List UInt8) (most : Int) (edits used off i : Nat) (w' : World) : Prop :=
  ∃ r' qs, TabX w' base t p r' b0 c0 l0 b1 c1 l1 qs T most edits used ∧ Parted (bufs l0 l1) ps off qs i ∧ Fr (fun k => k = p ∨ r = some k) w w' ∧ (r' = r ∨ ∃ g, r' = some g ∧ w.heap.size ≤ g)

set_option maxHeartbeats 1000000 in
theorem split_any (h : TabX w base t p r b0 c0 l0 b1 c1 l1 ps T most edits used) (off : Nat) (hoff : off ≤ T.length) (hT : T.length ≤ 1000000) (hn : ps.length ≤ 900000) (hu : used ≤ 1000000) :
    Calls Tryz.prog 76 #[.pointer (some ⟨t, 0, none⟩), .int .i64 off] w fun e w' => ∃ i : Nat, e = .returned (.int .i64 i) ∧ SplitOut w base t p r b0 c0 l0 b1 c1 l1 ps T most edits used off i w' := by
  have hfind := find_any h off hoff hT (by omega)
  have hlt : t < w.heap.size := (h.foot_lt (.inl rfl)).2
  have HH := Lib.hid h
  clear h
  go_enter Tryz.func76, Tryz.ntmps76
  go_wp2_with fail
  refine hfind.mono ?_
  rintro e w1 ⟨⟨i, q, left, rfl, hf⟩, hb1⟩
  obtain ⟨qb, qs, qz⟩ := q
  dsimp only [Pc.val]
  rcases hf with ⟨rfl, hi, ht⟩ | ⟨h0, hq, hl, ht⟩
  · go_wp2
    go_ret
    refine ⟨i, rfl, r, ps, HH.out.below (hb1.alloc hb1.size _), ?_, Fr.ofBelow (hb1.alloc hb1.size _) _, .inl rfl⟩
    rw [← ht]
    exact parted_at HH.out.ok hi
  · have H1 := HH.out.below hb1
    have hs1 := hb1.size
    obtain ⟨k0, k1, k2, k3, k4, k5⟩ := H1.cells
    have HQ := Lib.hid hq
    have HT := Lib.hid ht
    have HB := Lib.hid hb1
    have HH1 := Lib.hid H1
    clear hfind hq ht hb1 k0 k1 k3 k4 k5 H1
    have hl0 : ¬ ((left : Int) = 0) := by omega
    have hlt1 : t < w1.heap.size := by omega
    obtain ⟨hilt, hqe⟩ := List.getElem?_eq_some_iff.1 HQ.out
    have hset := VecP.set_in base p r ps i ⟨qb, qs, left⟩ ((w1.alloc (.cells #[.int .i64 qb, .int .i64 qs, .int .i64 qz] E)).drew) ((HH1.out.vec.fr ((Fr.refl (fun _ => False) _).alloc _) (by simp) (by simp)).fr (Fr.drew (Fr.refl (fun _ => False) _)) (by simp) (by simp)) (by omega) hilt
    clear hqe
    go_wp2
    refine wp_still_tail 11 (by kernel_rfl) (by kernel_rfl) ?_
    simp only [List.take_succ_cons, List.take_zero, List.drop_succ_cons, List.drop_zero]
    repeat still_step
    refine wpStill_nil ?_
    go_wp2_with fail
    refine hset.mono ?_
    rintro e w2 ⟨rfl, hv2, hf2⟩
    obtain ⟨ps1, hps1⟩ : ∃ ps1, ps1 = ps.set i ⟨qb, qs, left⟩ := ⟨_, rfl⟩
    rw [← hps1] at hv2
    have hl1 : ps1.length = ps.length := by rw [hps1, List.length_set]
    obtain ⟨w1', hw1'⟩ : ∃ w1', w1' = (w1.alloc (.cells #[.int .i64 qb, .int .i64 qs, .int .i64 qz] E)).drew := ⟨_, rfl⟩
    rw [← hw1'] at hf2
    have hb1' : Below w1.heap.size w1 w1' := by rw [hw1']; exact ((Below.refl _ w1).alloc (Nat.le_refl _) _).drew
    have hs1' : w1'.heap.size = w1.heap.size + 1 := by rw [hw1']; show (w1.alloc _).heap.size = _; simp
    have hrl : ∀ k, r = some k → k < w1.heap.size := fun k hk => (HH1.out.vec.rowLt k hk).2
    have hxx : w1'.heap[w1.heap.size]? = some (.cells #[.int .i64 qb, .int .i64 qs, .int .i64 qz] E (0, 0)) := by rw [hw1']; exact heap_alloc_new w1 _
    have hxx2 : w2.heap[w1.heap.size]? = some (.cells #[.int .i64 qb, .int .i64 qs, .int .i64 qz] E (0, 0)) := (hf2.block _ (by omega) (fun e => by have := hrl _ e; omega)).trans hxx
    have x0 : w2.cell? ⟨w1.heap.size, 0, none⟩ = some (.int .i64 qb) := (cell_of_row _ _ 0 _ _ _ hxx2).trans (by simp)
    have x1 : w2.cell? ⟨w1.heap.size, 1, none⟩ = some (.int .i64 qs) := (cell_of_row _ _ 1 _ _ _ hxx2).trans (by simp)
    have x2 : w2.cell? ⟨w1.heap.size, 2, none⟩ = some (.int .i64 qz) := (cell_of_row _ _ 2 _ _ _ hxx2).trans (by simp)
    have hk2 : w2.cell? ⟨t, 2, none⟩ = some (.pointer (some ⟨p, 0, none⟩)) := hf2.cell ((hb1'.cell hlt1).trans k2) (fun e => HH1.out.tr e)
    have hs2 : w1.heap.size + 1 ≤ w2.heap.size := by have := hf2.size; omega
    have hqo := HH1.out.ok _ (List.mem_of_getElem? HQ.out)
    have hqu : qs + qz ≤ used := by
      have h2 := hqo.2.2
      have h3 := HH1.out.u0
      have h4 := HH1.out.u1
      dsimp only [bufs] at h2
      split at h2 <;> omega
    have hins := VecP.insert_one base p r ps1 (i + 1) w2.heap.size ⟨qb, qs + left, qz - left⟩ ((w2.alloc (.cells #[.int .i64 qb, .int .i64 ((qs : Int) + left), .int .i64 ((qz : Int) - left)] E)).drew) (hv2.fr ((Fr.refl (fun _ => False) w2).alloc _).drew (by simp) (by simp))
      (by
        refine Eq.trans (heap_alloc_new w2 _) ?_
        have e1 : ((qz - left : Nat) : Int) = (qz : Int) - left := by omega
        have e2 : ((qs + left : Nat) : Int) = (qs : Int) + left := by omega
        simp [e1, e2]) (fun e => by have := hrl _ e; omega) (by omega) (by omega)
    have hci : (((i + 1 : Nat)) : Int) = (i : Int) + 1 := by omega
    rw [hci] at hins
    have hss : ∀ W, Fr (fun b => b = p ∨ r = some b) ((w2.alloc (.cells #[.int .i64 qb, .int .i64 ((qs : Int) + left), .int .i64 ((qz : Int) - left)] E)).drew) W → W.cell? ⟨t, 2, none⟩ = some (.pointer (some ⟨p, 0, none⟩)) ∧ W.cell? ⟨w1.heap.size, 0, none⟩ = some (.int .i64 qb) ∧ W.cell? ⟨w1.heap.size, 1, none⟩ = some (.int .i64 qs) ∧ W.cell? ⟨w1.heap.size, 2, none⟩ = some (.int .i64 qz) := fun W hW => by
      have hb0 : Below w2.heap.size w2 ((w2.alloc (.cells #[.int .i64 qb, .int .i64 ((qs : Int) + left), .int .i64 ((qz : Int) - left)] E)).drew) := ((Below.refl _ w2).alloc (Nat.le_refl _) _).drew
      have hxp : ¬ (w1.heap.size = p ∨ r = some w1.heap.size) := fun e => by
        rcases e with e | e
        · have := HH1.out.vec.lt.2; omega
        · have := hrl _ e; omega
      exact ⟨hW.cell ((hb0.cell (p := ⟨t, 2, none⟩) (by show t < _; omega)).trans hk2) (fun e => e.elim (fun e => HH1.out.tp e) (fun e => HH1.out.tr e)),
        hW.cell ((hb0.cell (p := ⟨w1.heap.size, 0, none⟩) (by show w1.heap.size < _; omega)).trans x0) hxp, hW.cell ((hb0.cell (p := ⟨w1.heap.size, 1, none⟩) (by show w1.heap.size < _; omega)).trans x1) hxp, hW.cell ((hb0.cell (p := ⟨w1.heap.size, 2, none⟩) (by show w1.heap.size < _; omega)).trans x2) hxp⟩
    have HSS := Lib.hid hss
    clear hss
    have HP1 := Lib.hid hps1
    have HL1 := Lib.hid hl1
    have HFW := Lib.hid (And.intro hf2 (And.intro hb1' hs1'))
    have HIN := Lib.hid hins
    have hw_1 : IntKind.i64.wrap ((i : Int) + 1) = (i : Int) + 1 := by rw [IntKind.wrap_i64]; omega
    have hw_2 : IntKind.i64.wrap ((qs : Int) + left) = (qs : Int) + left := by rw [IntKind.wrap_i64]; omega
    have hw_3 : IntKind.i64.wrap ((qz : Int) - left) = (qz : Int) - left := by rw [IntKind.wrap_i64]; omega
    clear hv2 hf2 k2 hset hps1 hl1 hw1' hb1' hs1' hxx hxx2 hqo hins hci
    go_wp2
    go_region_held3 (fun w' => w'.cell? ⟨t, 2, none⟩ = some (.pointer (some ⟨p, 0, none⟩)) ∧ w'.cell? ⟨w1.heap.size, 0, none⟩ = some (.int .i64 qb) ∧ w'.cell? ⟨w1.heap.size, 1, none⟩ = some (.int .i64 qs) ∧ w'.cell? ⟨w1.heap.size, 2, none⟩ = some (.int .i64 qz))
      (first | go_keep | exact ⟨d1, d2, d3, d4⟩)
      (first
        | (go_at_call 68; refine HIN.out.mono ?_
           rintro e w3 ⟨rfl, r3, hv3, hf3, hr3⟩
           obtain ⟨d1, d2, d3, d4⟩ := HSS.out _ hf3
           have HV3 := Lib.hid (And.intro hv3 (And.intro hf3 hr3))
           clear hv3 hf3 hr3))
    clear hw_1 hw_2 hw_3 d1 d2 d3 d4 x0 x1 x2 hk2
    go_wp2
    go_ret
    obtain ⟨hv3, hf3, hr3⟩ := HV3.out
    obtain ⟨hf2, hb1', hs1'⟩ := HFW.out
    have hF : Fr (fun k => k = p ∨ r = some k) w w3 :=
      (Fr.ofBelow HB.out _).trans ((Fr.ofBelow hb1' _).trans ((hf2.mono (fun _ _ h => .inr h)).trans (((Fr.refl _ w2).alloc _).drew.trans hf3)))
    have hpt := parted_in HH.out.ok HQ.out h0 hl
    rw [HT.out, ← HP1.out] at hpt
    refine ⟨i + 1, by rw [show ((i + 1 : Nat) : Int) = (i : Int) + 1 by omega]; rfl, r3, _, HH.out.turn hF (fun k _ h1 h2 h => h.elim h1 h2) hv3 hpt.ok (hpt.same.trans HH.out.text), hpt, hF, ?_⟩
    rcases hr3 with h | ⟨g, h, hg⟩
    · exact .inl h
    · refine .inr ⟨g, h, ?_⟩
      have e : ((w2.alloc (.cells #[.int .i64 qb, .int .i64 ((qs : Int) + left), .int .i64 ((qz : Int) - left)] E)).drew).heap.size = w2.heap.size + 1 := by show (w2.alloc _).heap.size = _; simp
      rw [e] at hg
      omega
end
end Go.Proofs.YtfllgmgipmmpkaaGreatDoor.Tb
