/-
  Package jumps: New, Push, Older, Newer, Adjust, All.
-/
import Derived.Test.YtfclclnlmhbgiaaUr
set_option linter.unusedVariables false
set_option linter.unusedSimpArgs false
set_option maxRecDepth 100000
namespace Go.Proofs.Ytfclclnlmhbgiaa.Jp
open Go Go.RowKit Go.Proofs.Ytfclclnlmhbgiaa.Vk Go.Proofs.Ytfclclnlmhbgiaa.Str Go.Proofs.Ytfclclnlmhbgiaa.Ln Go.Proofs.Ytfclclnlmhbgiaa.Cl Go.Proofs.Ytfclclnlmhbgiaa.Ml Go.Proofs.Ytfclclnlmhbgiaa.Mk Go.Shelf
attribute [local go_sem] Oper.semAt_some

section
variable {w w' : World} {B l p : Nat} {r : Option Nat} {ps : List P2} {at' : Nat}
theorem Lst.lt (h : Lst w B l p r ps at') : l < w.heap.size := (Array.getElem?_eq_some_iff.1 h.1).1
theorem Lst.c0 (h : Lst w B l p r ps at') : w.cell? ⟨l, 0, none⟩ = some (.pointer (some ⟨p, 0, none⟩)) := (cell_of_row w l 0 _ _ _ h.1).trans (by simp)
theorem Lst.c1 (h : Lst w B l p r ps at') : w.cell? ⟨l, 1, none⟩ = some (.int .i64 at') := (cell_of_row w l 1 _ _ _ h.1).trans (by simp)
theorem Lst.z (h : Lst w B l p r ps at') (k : Nat) : w.frozen? ⟨l, k, none⟩ = false := frozen_of_row w l k _ _ h.1
theorem Lst.fr (h : Lst w B l p r ps at') {S : Nat → Prop} (hf : Fr S w w') (hl : ¬ S l) (hp : ¬ S p) (hr : ∀ k, r = some k → ¬ S k) : Lst w' B l p r ps at' :=
  ⟨(hf.block l h.lt hl).trans h.1, h.2.1.fr hf hp hr, h.2.2⟩
theorem Lst.below (h : Lst w B l p r ps at') (hb : Below w.heap.size w w') : Lst w' B l p r ps at' := h.fr (Fr.ofBelow hb (fun _ => False)) (fun h => h) (fun h => h) (fun _ _ h => h)
theorem Lst.setix (h : Lst w B l p r ps at') (k : Nat) : Lst (w.setCell ⟨l, 1, none⟩ (.int .i64 (k : Int))) B l p r ps k := by
  obtain ⟨h1, h2, h3, h4⟩ := h
  refine ⟨(heap_setCell_same w l 1 _ _ (.int .i64 (k : Int)) h1).trans (by simp), ?_, h3, h4⟩
  exact h2.fr (Fr.setCell (S := fun k => k = l) (Fr.refl _ w) (fun _ => rfl) _) (fun e => h3 e.symm) (fun j hj e => h4 (e ▸ hj))
theorem Lst.to (h : Lst w B l p r ps at') {ps' : List P2} {r' : Option Nat} (hv : IsVec w' B VT VE 2 p r' ps'.length (Ps.flat ps')) (hf : Fr (fun k => k = p ∨ r = some k) w w') (hr : r' = r ∨ ∃ g, r' = some g ∧ w.heap.size ≤ g) : Lst w' B l p r' ps' at' := by
  have hl := h.lt
  obtain ⟨h1, h2, h3, h4⟩ := h
  refine ⟨(hf.block l hl (fun e => Or.elim e h3 h4)).trans h1, hv, h3, ?_⟩
  rcases hr with rfl | ⟨g, rfl, hg⟩
  · exact h4
  · intro e; injection e with e; omega
end
theorem new_any (w : World) : Calls Try.prog 7 #[] w fun e w' => ∃ l p, e = .returned (.pointer (some ⟨l, 0, none⟩)) ∧ Lst w' w.heap.size l p none [] 0 ∧ Below w.heap.size w w' ∧ w.heap.size ≤ l := by
  go_enter Try.func7, Try.ntmps7
  go_wp2_with fail
  refine (VecQ.new_nil w).mono ?_
  rintro e w' ⟨rfl, rfl⟩
  go_wp2_with fail
  go_ret
  have hB : Below w.heap.size w (w.alloc (.cells #[.slice none 0 0] VT)) := (Below.refl _ w).alloc (Nat.le_refl _) _
  have hp : ((w.alloc (.cells #[.slice none 0 0] VT)).alloc (.cells #[.pointer (some ⟨w.heap.size, 0, none⟩), .int .i64 0] LT)).heap[w.heap.size]? = some (.cells #[.slice none 0 0] VT (0, 0)) := (Below.heap_alloc _ _ _ (by simp)).trans (heap_alloc_new w _)
  have hl := heap_alloc_new (w.alloc (.cells #[.slice none 0 0] VT)) (.cells #[.pointer (some ⟨w.heap.size, 0, none⟩), .int .i64 0] LT)
  simp only [World.size_alloc] at hl
  exact ⟨w.heap.size + 1, w.heap.size, rfl, ⟨hl, ⟨none, 0, hp, Nat.le_refl _, World.ownsRow_nil _ _ _ _, rfl, by simp⟩, by omega, by simp⟩, hB.alloc (by simp) _, by omega⟩
/-- What Push makes of a list. -/
def pshL (ps : List P2) (q : P2) : List P2 := if 16 < (ps.filterMap (fP q.1) ++ [q]).length then (ps.filterMap (fP q.1) ++ [q]).drop 1 else ps.filterMap (fP q.1) ++ [q]
theorem pshL_le {ps : List P2} {q : P2} (h : ps.length ≤ 16) : (pshL ps q).length ≤ 16 := by
  have h1 := List.length_filterMap_le (fP q.1) ps
  unfold pshL
  split
  · rw [List.length_drop, List.length_append, List.length_singleton] at *; omega
  · omega
theorem pshL_pos {ps : List P2} {q : P2} : 1 ≤ (pshL ps q).length := by
  unfold pshL
  split
  · rename_i h; rw [List.length_drop]; omega
  · rw [List.length_append, List.length_singleton]; omega

set_option maxHeartbeats 2000000 in
theorem push_any (B l p : Nat) (r : Option Nat) (ps : List P2) (at' : Nat) (x y : Int) (w : World) (h : Lst w B l p r ps at') (hn : ps.length ≤ 16) (hat : at' ≤ ps.length) :
    Calls Try.prog 8 #[.pointer (some ⟨l, 0, none⟩), .agg #[.int .i64 x, .int .i64 y]] w fun e w' => e = .returned (.tuple #[]) ∧ ∃ p' r', Lst w' w.heap.size l p' r' (pshL ps (x, y)) (pshL ps (x, y)).length ∧ Fr (fun k => k = l) w w' ∧ w.heap.size ≤ p' ∧ ∀ k, r' = some k → w.heap.size ≤ k := by
  have hmx : Try.prog.follows .mixedOrders = true := by kernel_rfl
  have hl := h.lt
  obtain ⟨w1, hw1⟩ : ∃ v, v = w.alloc (.cells #[.int .i64 x, .int .i64 y] 31) := ⟨_, rfl⟩
  have hb1 : Below w.heap.size w w1 := by rw [hw1]; exact (Below.refl _ w).alloc (Nat.le_refl _) _
  have s1 : w1.heap.size = w.heap.size + 1 := by rw [hw1]; simp
  have hq : PosAt w1 w.heap.size x y := by rw [hw1]; exact PosAt.new w x y
  have hrep := replP B l p r ps at' w.heap.size x y w1 (h.below hb1) (by omega) hat hq
  have HR := Lib.hid hrep
  have HQ := Lib.hid hq
  clear h hrep hq
  go_enter Try.func8, Try.ntmps8
  go_wp2_with fail
  rw [← hw1]
  refine HR.out.mono ?_
  rintro e w2 ⟨rfl, p2, r2, h2, hf2⟩
  have hs2 := hf2.size
  have hp2 := h2.2.1.lt
  have hr2 := h2.2.1.rowLt
  have hq2 : PosAt w2 w.heap.size x y := HQ.out.fr hf2 (by omega)
  obtain ⟨L0, hL0⟩ : ∃ L, L = ps.filterMap (fP x) := ⟨_, rfl⟩
  rw [← hL0] at h2
  have hn0 : L0.length ≤ 16 := by have := List.length_filterMap_le (fP x) ps; rw [← hL0] at this; omega
  have HF2 := Lib.hid hf2
  have HL0 := Lib.hid hL0
  clear hf2 hL0 HR HQ
  go_wp2_with fail
  go_cut [6] from 7 to 18 (fun s6 wx => ∃ r', Hid (Lst wx w1.heap.size l p2 r' (L0 ++ [(x, y)]) ((ps.take at').filterMap (fP x)).length ∧ Fr (fun k => k = p2 ∨ r2 = some k) w2 wx))
  case first J' K' hJ' hK' =>
    have c0 := h2.c0
    have q0 := hq2.c0
    have q1 := hq2.c1
    have hlen : ∀ W, Below w2.heap.size w2 W → Calls Try.prog 22 #[.pointer (some ⟨p2, 0, none⟩)] W fun e w' => e = .returned (.int .i64 L0.length) ∧ W = w' := fun W hW => VecQ.len_any w1.heap.size p2 r2 _ _ W (h2.below hW).2.1
    have hins : ∀ W, Below w2.heap.size w2 W → ∀ sv, SrcV W 2 sv 1 [.int .i64 x, .int .i64 y] → (∀ j, blk sv = some j → r2 ≠ some j) → Calls Try.prog 21 #[.pointer (some ⟨p2, 0, none⟩), .int .i64 L0.length, sv] W fun e w' => e = .returned (.bool true) ∧
        ∃ r', IsVec w' w1.heap.size VT VE 2 p2 r' (L0.length + 1) (Ps.flat L0 ++ [.int .i64 x, .int .i64 y]) ∧ Fr (fun b => b = p2 ∨ r2 = some b) W w' ∧ (r' = r2 ∨ ∃ g, r' = some g ∧ W.heap.size ≤ g) :=
      fun W hW sv hsv hbl => VecQ.insert_end w1.heap.size p2 r2 _ _ sv 1 _ W (h2.below hW).2.1 (Ps.flat_cells _) hsv (fun _ => hbl) (by omega) (by omega) (by omega)
    have HLEN := Lib.hid hlen
    have HINS := Lib.hid hins
    have HRL := Lib.hid hr2
    have H2 := Lib.hid h2
    have HMX := Lib.hid hmx
    have hl2 := h2.lt
    have nlp := h2.2.2.1
    have nlr := h2.2.2.2
    have F_c0 := fun (C : World → Prop) (hC : Vs.Grows (fun k => k = p2 ∨ r2 = some k) w2 C) (z : Vs.In C) => hC.cell c0 (fun e => Or.elim e nlp nlr) z
    have F_q0 := fun (C : World → Prop) (hC : Vs.Grows (fun k => k = p2 ∨ r2 = some k) w2 C) (z : Vs.In C) => hC.cell q0 (fun e => Or.elim e (fun e => by simp only at e; omega) (fun e => by have := (HRL.out _ e).1; simp only at this; omega)) z
    have F_q1 := fun (C : World → Prop) (hC : Vs.Grows (fun k => k = p2 ∨ r2 = some k) w2 C) (z : Vs.In C) => hC.cell q1 (fun e => Or.elim e (fun e => by simp only at e; omega) (fun e => by have := (HRL.out _ e).1; simp only at this; omega)) z
    clear hlen hins h2 hmx c0 q0 q1 hr2 hq2
    refine Vs.wp_region_tree (S := (fun k => k = p2 ∨ r2 = some k)) [] (.fork ([0, 1, 2, 3, 4, 5, 6, 7, 9].map (fun i => (i, 0)) ++ []) 8 10 (.path [(10, 1), (11, 1)]) (.path [(8, 1), (11, 1)])) HMX.out (by kernel_rfl) ?_
    refine Vs.wpTr_fork (Vs.wpPath_on [0, 1, 2, 3, 4, 5, 6, 7, 9] 38 rfl (by kernel_rfl) ?_)
    simp only [List.map_cons, List.map_nil, Vs.opOf_succ, Vs.opOf_zero]
    apply Exists.intro
    refine ⟨fun C hC => ?_, ?_⟩
    · haveI hI := hC.one
      have f_c0 := F_c0 C hC
      have f_q0 := F_q0 C hC
      have f_q1 := F_q1 C hC
      repeat (go_big_quiet_step (fail))
      exact wpQuiet_nil rfl
    clear F_c0 F_q0 F_q1
    intro u hu
    have hsu := hu.size
    refine ⟨?_, ?_⟩
    · intro u hu9
      have hu := hu.trans (hu9.mono hsu)
      have hsu := Nat.le_trans hsu hu9.size
      refine Vs.fork_call (f := 22) (args := #[.pointer (some ⟨p2, 0, none⟩)]) rfl rfl (by simp only [Vs.opOf_succ, Vs.opOf_zero]; go_simp) ?_
      refine (HLEN.out _ hu).mono ?_
      rintro e w' ⟨rfl, rfl⟩
      refine ⟨_, rfl, Fr.refl _ _, ?_⟩
      simp only [Vs.opOf_succ, Vs.opOf_zero, Act.put, List.setIfInBounds_toArray, List.set_cons_zero, List.set_cons_succ]
      refine Vs.wpTr_path ?_
      refine Vs.wpPath_make rfl ?_
      intro u hu9
      have hu := hu.trans (hu9.mono hsu)
      have hsu := Nat.le_trans hsu hu9.size
      refine ⟨.slice (some ⟨u.heap.size, 0, none⟩) 1 1, u.alloc (.cells #[.int .i64 x, .int .i64 y] 31), rfl, by simp only [Vs.opOf_succ, Vs.opOf_zero]; go_simp, Fr.ofBelow ((Below.refl _ u).alloc (Nat.le_refl _) _) _, ?_⟩
      simp only [Vs.opOf_succ, Vs.opOf_zero, Act.put, List.setIfInBounds_toArray, List.set_cons_zero, List.set_cons_succ]
      have SP := Ps.SrcV.pos u x y 31
      obtain ⟨v, hv⟩ : ∃ v, v = u.alloc (.cells #[.int .i64 x, .int .i64 y] 31) := ⟨_, rfl⟩
      have hbv : Below u.heap.size u v := by rw [hv]; exact (Below.refl _ u).alloc (Nat.le_refl _) _
      obtain ⟨gS, hgS⟩ : ∃ g, g = u.heap.size := ⟨_, rfl⟩
      have hgS5 : w2.heap.size ≤ gS := by rw [hgS]; exact hsu
      have hu := hu.trans (hbv.mono hsu)
      have hsu := Nat.le_trans hsu hbv.size
      rw [← hv, ← hgS] at SP ⊢
      clear hv hbv hgS
      refine Vs.wpPath_call (f := 21) (args := #[.pointer (some ⟨p2, 0, none⟩), .int .i64 L0.length, .slice (some ⟨gS, 0, none⟩) 1 1]) rfl rfl (fun _ => by simp only [Vs.opOf_succ, Vs.opOf_zero]; go_simp) ?_
      intro u hu9
      have hu := hu.trans (hu9.mono hsu)
      have hsu := Nat.le_trans hsu hu9.size
      have SP := SP.below hu9
      have hin := HINS.out u hu _ SP (fun j hj e => by have := (HRL.out j e).2; simp [blk] at hj; omega)
      refine hin.mono ?_
      rintro e W7 ⟨rfl, r7, hv7, hF7, hr7⟩
      refine ⟨_, rfl, hF7, ?_⟩
      simp only [Vs.opOf_succ, Vs.opOf_zero, Act.put, List.setIfInBounds_toArray, List.set_cons_zero, List.set_cons_succ]
      refine Vs.wpPath_end ?_
      intro W hW
      refine hK' _ _ (Met.intro (hJ' _ _ ?_))
      repeat apply Exists.intro
      refine ⟨?_, rfl⟩
      have hF8 : Fr (fun k => k = p2 ∨ r2 = some k) w2 W := (Fr.ofBelow hu _).trans (hF7.trans (Fr.ofBelow hW _))
      have hv8 := hv7.fr (Fr.ofBelow hW (fun _ => False)) (by simp) (by simp)
      refine ⟨r7, Lib.hid ⟨H2.out.to (ps' := L0 ++ [(x, y)]) (by rw [Ps.flat_append, List.length_append]; exact hv8) hF8 ?_, hF8⟩⟩
      rcases hr7 with h | ⟨g, h, hg⟩
      · exact .inl h
      · exact .inr ⟨g, h, by omega⟩
    · intro u hu9
      have hu := hu.trans (hu9.mono hsu)
      have hsu := Nat.le_trans hsu hu9.size
      refine Vs.fork_make (W' := u.alloc (.cells #[.int .i64 x, .int .i64 y] 31)) (u := .slice (some ⟨u.heap.size, 0, none⟩) 1 1) rfl rfl (by simp only [Vs.opOf_succ, Vs.opOf_zero]; go_simp) ?_
      refine ⟨Fr.ofBelow ((Below.refl _ u).alloc (Nat.le_refl _) _) _, ?_⟩
      simp only [Vs.opOf_succ, Vs.opOf_zero, Act.put, List.setIfInBounds_toArray, List.set_cons_zero, List.set_cons_succ]
      have SP := Ps.SrcV.pos u x y 31
      obtain ⟨v, hv⟩ : ∃ v, v = u.alloc (.cells #[.int .i64 x, .int .i64 y] 31) := ⟨_, rfl⟩
      have hbv : Below u.heap.size u v := by rw [hv]; exact (Below.refl _ u).alloc (Nat.le_refl _) _
      obtain ⟨gS, hgS⟩ : ∃ g, g = u.heap.size := ⟨_, rfl⟩
      have hgS5 : w2.heap.size ≤ gS := by rw [hgS]; exact hsu
      have hu := hu.trans (hbv.mono hsu)
      have hsu := Nat.le_trans hsu hbv.size
      rw [← hv, ← hgS] at SP ⊢
      clear hv hbv hgS
      refine Vs.wpTr_path ?_
      refine Vs.wpPath_call (f := 22) (args := #[.pointer (some ⟨p2, 0, none⟩)]) rfl rfl (fun _ => by simp only [Vs.opOf_succ, Vs.opOf_zero]; go_simp) ?_
      intro u hu9
      have hu := hu.trans (hu9.mono hsu)
      have hsu := Nat.le_trans hsu hu9.size
      have SP := SP.below hu9
      refine (HLEN.out _ hu).mono ?_
      rintro e w' ⟨rfl, rfl⟩
      refine ⟨_, rfl, Fr.refl _ _, ?_⟩
      simp only [Vs.opOf_succ, Vs.opOf_zero, Act.put, List.setIfInBounds_toArray, List.set_cons_zero, List.set_cons_succ]
      refine Vs.wpPath_call (f := 21) (args := #[.pointer (some ⟨p2, 0, none⟩), .int .i64 L0.length, .slice (some ⟨gS, 0, none⟩) 1 1]) rfl rfl (fun _ => by simp only [Vs.opOf_succ, Vs.opOf_zero]; go_simp) ?_
      intro u hu9
      have hu := hu.trans (hu9.mono hsu)
      have hsu := Nat.le_trans hsu hu9.size
      have SP := SP.below hu9
      have hin := HINS.out u hu _ SP (fun j hj e => by have := (HRL.out j e).2; simp [blk] at hj; omega)
      refine hin.mono ?_
      rintro e W7 ⟨rfl, r7, hv7, hF7, hr7⟩
      refine ⟨_, rfl, hF7, ?_⟩
      simp only [Vs.opOf_succ, Vs.opOf_zero, Act.put, List.setIfInBounds_toArray, List.set_cons_zero, List.set_cons_succ]
      refine Vs.wpPath_end ?_
      intro W hW
      refine hK' _ _ (Met.intro (hJ' _ _ ?_))
      repeat apply Exists.intro
      refine ⟨?_, rfl⟩
      have hF8 : Fr (fun k => k = p2 ∨ r2 = some k) w2 W := (Fr.ofBelow hu _).trans (hF7.trans (Fr.ofBelow hW _))
      have hv8 := hv7.fr (Fr.ofBelow hW (fun _ => False)) (by simp) (by simp)
      refine ⟨r7, Lib.hid ⟨H2.out.to (ps' := L0 ++ [(x, y)]) (by rw [Ps.flat_append, List.length_append]; exact hv8) hF8 ?_, hF8⟩⟩
      rcases hr7 with h | ⟨g, h, hg⟩
      · exact .inl h
      · exact .inr ⟨g, h, by omega⟩
  case rest =>
    obtain ⟨r3, HH⟩ := hcut
    obtain ⟨h3, hf3⟩ := HH.out
    clear HH
    have hr3 := h3.2.1.rowLt
    have hs3 := hf3.size
    have hlt3 := h3.lt
    have c30 := h3.c0
    have hN : (L0 ++ [(x, y)]).length = L0.length + 1 := by simp
    obtain ⟨N, hNe⟩ : ∃ N, N = (L0 ++ [(x, y)]).length := ⟨_, rfl⟩
    have hlen := VecQ.len_any w1.heap.size p2 r3 _ _ wc h3.2.1
    rw [← hNe] at hlen
    have HH3 := Lib.hid h3
    have HF3 := Lib.hid hf3
    have HN := Lib.hid hNe
    have hN17 : N ≤ 17 := by omega
    have hpsh : pshL ps (x, y) = if 16 < N then (L0 ++ [(x, y)]).drop 1 else L0 ++ [(x, y)] := by unfold pshL; rw [← HL0.out, ← hNe]
    have HP := Lib.hid hpsh
    clear h3 hf3 hN hNe hpsh
    by_cases h16 : 16 < N
    · have hdel := VecQ.delete_in w1.heap.size p2 r3 N (Ps.flat (L0 ++ [(x, y)])) 0 1 1 wc (by rw [HN.out]; exact HH3.out.2.1) (Ps.flat_cells _) (by omega) (by omega) (by omega) (by omega) (by omega)
      have HD := Lib.hid hdel
      clear hdel
      go_wp2_with fail
      refine hlen.mono ?_
      rintro e w' ⟨rfl, rfl⟩
      go_wp2_with fail
      refine HD.out.mono ?_
      rintro e w4 ⟨b4, c4, rfl, -, hv4, hf4⟩
      have hv4' : IsVec w4 w1.heap.size VT VE 2 p2 r3 ((L0 ++ [(x, y)]).drop 1).length (Ps.flat ((L0 ++ [(x, y)]).drop 1)) := by
        have e1 := Ps.flat_drop (L0 ++ [(x, y)]) 1 (by simp)
        rw [List.length_drop, ← HN.out, ← e1]
        simpa using hv4
      have h4 := HH3.out.to (ps' := (L0 ++ [(x, y)]).drop 1) hv4' hf4 (.inl rfl)
      have c40 := h4.c0
      have c41 := h4.c1
      have cz4 := h4.z 1
      have hlen4 := VecQ.len_any w1.heap.size p2 r3 _ _ w4 h4.2.1
      have hdl : ((L0 ++ [(x, y)]).drop 1).length = N - 1 := by rw [List.length_drop, HN.out]
      rw [hdl] at hlen4
      have H4 := Lib.hid h4
      have HF4 := Lib.hid hf4
      have hs4 := hf4.size
      clear h4 hv4 hv4' hf4 hlen
      go_wp2_with fail
      refine hlen4.mono ?_
      rintro e w' ⟨rfl, rfl⟩
      go_wp2_with fail
      go_end0
      have h5 := H4.out.setix (N - 1)
      refine ⟨rfl, p2, r3, ?_, ?_, by omega, fun k e => by have := (hr3 k e).1; omega⟩
      · rw [HP.out, if_pos h16, hdl]
        exact ⟨h5.1, h5.2.1.mono (by omega), h5.2.2⟩
      · have fA : Fr (fun k => k = l) w w2 := (Fr.ofBelow hb1 _).trans HF2.out
        have fB : Fr (fun k => k = l) w wc := fA.trans' HF3.out (fun i hi e => by exact Or.elim e (fun e => by omega) (fun e => by have := (hr2 i e).1; omega))
        have fC : Fr (fun k => k = l) w w4 := fB.trans' HF4.out (fun i hi e => by exact Or.elim e (fun e => by omega) (fun e => by have := (hr3 i e).1; omega))
        exact fC.setCell (fun _ => rfl) _
    · go_wp2_with fail
      refine hlen.mono ?_
      rintro e w' ⟨rfl, rfl⟩
      have c31 := HH3.out.c1
      have cz3 := HH3.out.z 1
      go_wp2_with fail
      refine hlen.mono ?_
      rintro e w' ⟨rfl, rfl⟩
      go_wp2_with fail
      go_end0
      have h5 := HH3.out.setix N
      refine ⟨rfl, p2, r3, ?_, ?_, by omega, fun k e => by have := (hr3 k e).1; omega⟩
      · rw [HP.out, if_neg h16, ← HN.out]
        exact ⟨h5.1, h5.2.1.mono (by omega), h5.2.2⟩
      · have fA : Fr (fun k => k = l) w w2 := (Fr.ofBelow hb1 _).trans HF2.out
        have fB : Fr (fun k => k = l) w wc := fA.trans' HF3.out (fun i hi e => by exact Or.elim e (fun e => by omega) (fun e => by have := (hr2 i e).1; omega))
        exact fB.setCell (fun _ => rfl) _

/-- What Adjust makes of a list, of the index. -/
def adjL (ps : List P2) (a o n : Int) : List P2 := ps.filterMap (fA a o n)
def adjN (ps : List P2) (at' : Nat) (a o n : Int) : Nat := ((ps.take at').filterMap (fA a o n)).length
theorem adj_any (B l p : Nat) (r : Option Nat) (ps : List P2) (at' : Nat) (a o n : Int) (w : World) (h : Lst w B l p r ps at') (hn : ps.length ≤ 16) (hat : at' ≤ ps.length) (hbd : ∀ q ∈ ps, -4611686018427387904 ≤ q.1 ∧ q.1 ≤ 4611686018427387904) :
    Calls Try.prog 14 #[.pointer (some ⟨l, 0, none⟩), .int .i64 a, .int .i64 o, .int .i64 n] w fun e w' => e = .returned (.tuple #[]) ∧ ∃ p' r', Lst w' w.heap.size l p' r' (adjL ps a o n) (adjN ps at' a o n) ∧ Fr (fun k => k = l) w w' ∧ w.heap.size ≤ p' ∧ ∀ k, r' = some k → w.heap.size ≤ k := by
  have hl := h.lt
  obtain ⟨w1, hw1⟩ : ∃ v, v = ((w.alloc (.cells #[.int .i64 a] 3)).alloc (.cells #[.int .i64 o] 3)).alloc (.cells #[.int .i64 n] 3) := ⟨_, rfl⟩
  have hb1 : Below w.heap.size w w1 := by rw [hw1]; exact (((Below.refl _ w).alloc (Nat.le_refl _) _).alloc (by simp) _).alloc (by simp only [World.size_alloc]; omega) _
  have s1 : w1.heap.size = w.heap.size + 3 := by rw [hw1]; simp
  have e0 : w1.heap[w.heap.size]? = some (.cells #[.int .i64 a] 3 (0, 0)) := by rw [hw1]; simp only [heap_alloc_if, World.size_alloc]; repeat (first | rw [if_pos trivial] | rw [if_pos (by omega)] | rw [if_neg (by omega)])
  have e1 : w1.heap[w.heap.size + 1]? = some (.cells #[.int .i64 o] 3 (0, 0)) := by rw [hw1]; simp only [heap_alloc_if, World.size_alloc]; repeat (first | rw [if_pos trivial] | rw [if_pos (by omega)] | rw [if_neg (by omega)])
  have e2 : w1.heap[w.heap.size + 2]? = some (.cells #[.int .i64 n] 3 (0, 0)) := by rw [hw1]; simp only [heap_alloc_if, World.size_alloc]; repeat (first | rw [if_pos trivial] | rw [if_pos (by omega)] | rw [if_neg (by omega)])
  have hrep := replA B l p r ps at' w.heap.size (w.heap.size + 1) (w.heap.size + 2) a o n w1 (h.below hb1) (by omega) hat ((cell_of_row _ _ 0 _ _ _ e0).trans (by rfl)) ((cell_of_row _ _ 0 _ _ _ e1).trans (by rfl)) ((cell_of_row _ _ 0 _ _ _ e2).trans (by rfl)) hbd
  have HR := Lib.hid hrep
  clear h hrep e0 e1 e2
  go_enter Try.func14, Try.ntmps14
  go_wp2_with fail
  rw [← hw1]
  refine HR.out.mono ?_
  rintro e w2 ⟨rfl, p2, r2, h2, hf2⟩
  go_wp2_with fail
  go_end0
  have hp2 := h2.2.1.lt
  exact ⟨rfl, p2, r2, ⟨h2.1, h2.2.1.mono (by omega), h2.2.2⟩, (Fr.ofBelow hb1 _).trans hf2, by omega, fun k e => by have := (h2.2.1.rowLt k e).1; omega⟩

/-- Between the rounds of All. -/
structure Ra (Wi : World) (M lo : Nat) (xs : List P2) (V : World) : Prop where
  fr : Fr (fun k => k = M) Wi V
  row : ∃ b c, V.heap[M]? = some (.cells #[.slice b xs.length c] 27 (0, 0)) ∧ V.ownsRow lo VE 2 (.slice b xs.length c) xs.length (Ps.flat xs)
theorem Ra.fr' {Wi A V : World} {M lo : Nat} {xs : List P2} (h : Ra Wi M lo xs A) {T : Nat → Prop} (hf : Fr T A V) (hM : ¬ T M) (hT : ∀ k, T k → Wi.heap.size ≤ k) (hr : ∀ k cs, A.heap[k]? = some (.cells cs VE (0, 0)) → lo ≤ k → ¬ T k) : Ra Wi M lo xs V := by
  obtain ⟨h1, b, c, h2, h3⟩ := h
  refine ⟨h1.trans' hf (fun i hi ht => absurd (hT i ht) (by omega)), b, c, (hf.block M (Array.getElem?_eq_some_iff.1 h2).1 hM).trans h2, ownsRow_fr h3 hf (fun k hk => ?_)⟩
  obtain ⟨cs, hcs⟩ := own_row_cells h3 k hk
  exact hr k cs hcs (h3.lt k hk).1
theorem Ra.below {Wi A V : World} {M lo : Nat} {xs : List P2} (h : Ra Wi M lo xs A) (hb : Below A.heap.size A V) : Ra Wi M lo xs V :=
  h.fr' (Fr.ofBelow hb (fun _ => False)) (fun h => h) (fun _ h => h.elim) (fun _ _ _ _ h => h)
theorem Ra.grown {Wi A V : World} {M lo : Nat} {xs : List P2} (h : Ra Wi M lo xs A) (hM : M < Wi.heap.size) {row : Option Nat} (hg : A.grownBy V row) (hr : ∀ k, row = some k → Wi.heap.size ≤ k ∧ ∃ o : Obj, A.heap[k]? = some o ∧ o.isCells = false) : Ra Wi M lo xs V :=
  h.fr' (T := fun k => row = some k) (Fr.grown (Fr.refl _ A) hg (fun k e _ => e)) (fun e => by have := (hr _ e).1; omega) (fun k e => (hr k e).1)
    (fun k cs hcs _ e => by
      obtain ⟨_, o, ho, hc⟩ := hr k e
      rw [hcs] at ho
      injection ho with ho
      subst ho
      cases hc)
theorem infoP : (Try.prog.info? VE).map (fun i => (i.zero, i.size, i.bytes)) = some (some (.agg #[.int .i64 0, .int .i64 0]), 2, 16) := by kernel_rfl
theorem underP : Try.prog.underlying 27 = some (.slice VE) := by kernel_rfl

set_option maxHeartbeats 4000000 in
theorem all_any (B l p : Nat) (r : Option Nat) (ps : List P2) (at' : Nat) (w : World) (h : Lst w B l p r ps at') (hn : ps.length ≤ 1000) :
    Calls Try.prog 16 #[.pointer (some ⟨l, 0, none⟩)] w fun e w' => ∃ b c, e = .returned (.tuple #[.slice b ps.length c, .int .i64 at']) ∧ SrcV w' 2 (.slice b ps.length c) ps.length (Ps.flat ps) ∧ Below w.heap.size w w' := by
  obtain ⟨i0, hi0, hz0, hz1', hz2'⟩ := info_parts infoP
  have hl := h.lt
  have hp := h.2.1.lt.2
  have c0 := h.c0
  have c1 := h.c1
  have HH := Lib.hid h
  clear h
  refine (callsIn_wide (n := 9)).1 ?_
  refine callsIn_of_wp_marks Try.func16 rfl trivial ?_ rfl
  simp only [Try.ntmps16, List.size_toArray, List.length_cons, List.length_nil, Nat.reduceAdd, Nat.reduceSub, Array.replicate_succ, Array.replicate_zero, List.push_toArray, List.append_toArray, List.nil_append, List.cons_append]
  refine wpIn_mono (Q := noPanic _) ?_ (noPanic_out _)
  have nl : ¬ (l = w.heap.size) := by omega
  gi_wp2_with (refine ⟨trivial, ?_⟩; gi_at_call 28; refine (callsIn_wide.2 (VecQ.all_new _ _)).mono ?_; rintro e w' ⟨rfl, rfl⟩)
  refine name_world ?_
  intro Wi hWi
  have hWi : Wi = ((w.alloc (.cells #[.slice none 0 0] 27)).alloc (.cells #[.pointer (some ⟨p, 0, none⟩)] 48)).alloc (.cells #[.func (.func 36) #[] #[]] 69) := hWi
  have si : Wi.heap.size = w.heap.size + 3 := by rw [hWi]; simp
  have bw : Below w.heap.size w Wi := by rw [hWi]; exact (((Below.refl _ w).alloc (Nat.le_refl _) _).alloc (by simp) _).alloc (by simp only [World.size_alloc]; omega) _
  have e0 : Wi.heap[w.heap.size]? = some (.cells #[.slice none 0 0] 27 (0, 0)) := by rw [hWi]; simp only [heap_alloc_if, World.size_alloc]; repeat (first | rw [if_pos trivial] | rw [if_pos (by omega)] | rw [if_neg (by omega)])
  have k4 : Wi.cell? ⟨w.heap.size + 1, 0, none⟩ = some (.pointer (some ⟨p, 0, none⟩)) := (cell_of_row Wi _ 0 _ _ _ (by rw [hWi]; simp only [heap_alloc_if, World.size_alloc]; repeat (first | rw [if_pos trivial] | rw [if_pos (by omega)] | rw [if_neg (by omega)]))).trans (by rfl)
  have k5 : Wi.cell? ⟨w.heap.size + 2, 0, none⟩ = some (.func (.func 36) #[] #[]) := (cell_of_row Wi _ 0 _ _ _ (by rw [hWi]; simp only [heap_alloc_if, World.size_alloc]; repeat (first | rw [if_pos trivial] | rw [if_pos (by omega)] | rw [if_neg (by omega)]))).trans (by rfl)
  have hvi := (HH.out.below bw).2.1
  have hrl : ∀ k, r = some k → k < w.heap.size := fun k hk => (HH.out.2.1.rowLt k hk).2
  obtain ⟨M, hM⟩ : ∃ M, M = w.heap.size := ⟨_, rfl⟩
  have iter := VecQ.all_iter B p (w.heap.size + 2) (w.heap.size + 1) r ps Wi hvi (by omega) (fun k => k = M) (by omega) (fun k hk => by have := hrl k hk; omega) (by omega) k5 k4
  rw [← hM] at e0 ⊢
  have I0 : Ra Wi M (Wi.heap.size + 6) (ps.take ([] : List (Nat × P2)).length) Wi := ⟨Fr.refl _ _, none, 0, e0, World.ownsRow_nil _ _ _ _⟩
  have HM := Lib.hid hM
  have hMs : M + 3 = Wi.heap.size := by omega
  have hlM : l < M := by omega
  clear hWi k4 k5 hvi e0 hM nl
  refine rangeFunc_iter (by omega) (gf := 39) (lb := #[.pointer (some ⟨w.heap.size + 2, 0, none⟩), .pointer (some ⟨w.heap.size + 1, 0, none⟩)]) (by rw [HM.out]; rfl) (enters_of Try.func39 (by kernel_rfl) rfl) iter
    (fun h1 h2 => h1.trans h2) (frK (by omega)) (Below.refl _ _) (fun _ => rfl)
    (fun pre V => Ra Wi M (Wi.heap.size + 6) (ps.take pre.length) V)
    (fun c pre V => False) ?hI ?hIx I0 ?round ?done ?stop
  case hI => exact fun s A' B' row hs hg hr => hs.grown (by omega) hg hr
  case hIx => exact fun c s A' B' row hs hg hr => hs
  case stop => exact fun _ _ _ _ _ _ _ h _ => h.elim
  case round =>
    rintro l' pre x V0 ⟨rest, hpr⟩ hsz0 hi0
    obtain ⟨hk, hx⟩ := range_at _ _ pre x rest hpr
    have hq : ps[pre.length]? = some ps[pre.length] := List.getElem?_eq_getElem hk
    rw [List.getD_eq_getElem?_getD, hq] at hx
    obtain ⟨n, q1, q2⟩ := x
    injection hx with hn' hqe
    dsimp only [Option.getD] at hqe
    have hpn : ∀ y : Nat × P2, (pre ++ [y]).length = n + 1 := fun y => by rw [List.length_append, List.length_singleton, hn']
    have hqn : ∃ h : n < ps.length, ps[n] = (q1, q2) := by subst hn'; exact ⟨hk, hqe.symm⟩
    have hqv : Ps.pv (q1, q2) = .agg #[.int .i64 q1, .int .i64 q2] := rfl
    dsimp only
    rw [hqv]
    simp only [← hn'] at hi0 ⊢
    have HI0 := Lib.hid hi0
    have HPN := Lib.hid hpn
    have HQN := Lib.hid hqn
    have HNN := Lib.hid hn'
    clear hi0 hqe hqv hpn hqn hn' hpr hq hk
    gi_wp2
    refine ⟨(Keep.refl _ _ _).alloc _ (by omega), (Fr.refl _ _).alloc _, HI0.out.below ((Below.refl _ V0).alloc (Nat.le_refl _) _), ?_⟩
    rintro V2 hgr hl' - hsz2 hi2
    obtain ⟨QB, hQB⟩ : ∃ QB, QB = V0.heap.size := ⟨_, rfl⟩
    have hqp : PosAt V2 QB q1 q2 := by
      rw [hQB]
      exact (hgr.block _ (by simp) (by intro e; injection e with e; omega)).trans (heap_alloc_new V0 _)
    rw [← hQB]
    have hQ6 : Wi.heap.size + 6 ≤ QB := by omega
    have hQ2 := hqp.lt
    clear hgr hQB HI0
    obtain ⟨hfr, b, cc, hbm, hrow⟩ := hi2
    obtain ⟨hn3, hqn⟩ := HQN.out
    have hln : (ps.take n).length = n := by rw [List.length_take]; omega
    rw [hln] at hbm hrow
    have y1 : V2.cell? ⟨M, 0, none⟩ = some (.slice b n cc) := (cell_of_row V2 _ 0 _ _ _ hbm).trans (by simp)
    have g0 := hqp.c0
    have g1 := hqp.c1
    have nM : ¬ (M = V2.heap.size) := by omega
    have lM : M < V2.heap.size := by omega
    have hlo : ∀ k, (Value.slice b n cc).ownBlock = some k → Wi.heap.size + 6 ≤ k := fun k e => (hrow.lt k e).1
    have hrow3 := ownsRow_fr hrow ((Fr.refl (fun _ => False) V2).alloc (.cells #[.int .i64 q1, .int .i64 q2] 31)) (by simp)
    have hs3 := Ps.SrcV.pos V2 q1 q2 31
    have hbm3 : (V2.alloc (.cells #[.int .i64 q1, .int .i64 q2] 31)).heap[M]? = some (.cells #[.slice b n cc] 27 (0, 0)) := (Below.heap_alloc _ _ _ lM).trans hbm
    have HR3 := Lib.hid hrow3
    have HS3 := Lib.hid hs3
    have HFR := Lib.hid hfr
    have HQE := Lib.hid hqn
    have HST := Lib.hid (show ∀ V4, (V2.alloc (.cells #[.int .i64 q1, .int .i64 q2] 31)).grownBy V4 (Value.slice b n cc).ownBlock → V4.heap[M]? = some (.cells #[.slice b n cc] 27 (0, 0)) from fun V4 hg => (hg.block M (by simp only [World.size_alloc]; omega) (fun e => by have := hlo M e.symm; omega)).trans hbm3)
    clear hrow hrow3 hs3 hbm hbm3 hqp hfr hqn
    gi_wp2_with (gi_at_builtin; go_must (refine wpListIn_append_srcv _ rfl _ _ 27 rfl (Wi.heap.size + 6) VE i0 (.agg #[.int .i64 0, .int .i64 0]) 2 16 underP hi0 hz0 hz1' hz2' rfl (by decide) (.slice b n cc) n (Ps.flat (ps.take n)) rfl HR3.out (.slice (some ⟨V2.heap.size, 0, none⟩) 1 1) 1 [.int .i64 q1, .int .i64 q2] rfl HS3.out (by simp only [maxLen]; omega) (by omega) (by simp only [World.size_alloc]; omega) ?_); intro ob oc V4 hown hg hnr; have y4 : V4.cell? ⟨M, 0, none⟩ = some (.slice b n cc) := (cell_of_row V4 _ 0 _ _ _ (HST.out V4 hg)).trans (by simp); have z4 : V4.frozen? ⟨M, 0, none⟩ = false := frozen_of_row V4 _ 0 _ _ (HST.out V4 hg); have HO := Lib.hid (And.intro hown hg); clear hown hg hnr g0 g1 y1)
    obtain ⟨hown, hg⟩ := HO.out
    have hbm4 := HST.out V4 hg
    refine name_post ?_
    intro W hW
    have hW : W = V4.setCell ⟨M, 0, none⟩ (.slice ob (n + 1) oc) := hW
    have hF4 : Fr (fun k => k = M ∨ Wi.heap.size + 6 ≤ k) V2 V4 := ((Fr.refl _ V2).alloc _).trans ((Fr.refl _ _).grown hg (fun k e _ => .inr (hlo k e)))
    have hF : Fr (fun k => k = M ∨ Wi.heap.size + 6 ≤ k) V2 W := by rw [hW]; exact hF4.setCell (fun _ => .inl rfl) _
    have hrow9 : W.ownsRow (Wi.heap.size + 6) VE 2 (.slice ob (n + 1) oc) (n + 1) (Ps.flat (ps.take n) ++ [.int .i64 q1, .int .i64 q2]) := by
      rw [hW]
      exact ownsRow_fr hown (Fr.setCell (S := fun k => k = M) (p := ⟨M, 0, none⟩) (Fr.refl _ V4) (fun _ => rfl) _) (fun k hk e => by have := (hown.lt k hk).1; omega)
    have hbm9 : W.heap[M]? = some (.cells #[.slice ob (n + 1) oc] 27 (0, 0)) := by
      rw [hW]
      exact (heap_setCell_same V4 M 0 _ _ (.slice ob (n + 1) oc) hbm4).trans (by simp)
    refine ⟨Keep.ofFr hF hsz2 (fun k e => by omega), hF.mono (fun k _ e => e.elim .inl (fun e => .inr (by omega))), ?_⟩
    show Ra Wi M (Wi.heap.size + 6) (ps.take (pre ++ [(n, (q1, q2))]).length) W
    rw [HPN.out]
    have htk : ps.take (n + 1) = ps.take n ++ [(q1, q2)] := by rw [take_one hn3, HQE.out]
    have hlt : (ps.take (n + 1)).length = n + 1 := by rw [List.length_take]; omega
    refine ⟨HFR.out.trans' hF (fun i hi e => e.elim id (fun e => by omega)), ob, oc, ?_, ?_⟩
    · rw [hlt]; exact hbm9
    · rw [hlt, htk, Ps.flat_append]; exact hrow9
  case done =>
    rintro D' V hD hI hk
    rw [List.length_map, List.length_range, List.take_length] at hI
    obtain ⟨hfr, b, cc, hbm, hrow⟩ := hI
    have bV : Below w.heap.size w V := bw.trans (hfr.below (B := w.heap.size) (by omega) (fun k e => by have := HM.out; omega))
    have y0 := cell_later bV c0
    have y1 := cell_later bV c1
    have y4 : V.cell? ⟨M, 0, none⟩ = some (.slice b ps.length cc) := (cell_of_row V _ 0 _ _ _ hbm).trans (by simp)
    have HB := Lib.hid bV
    have HR := Lib.hid hrow
    have HK := Lib.hid hk
    clear hfr hbm hrow bV hk c0 c1
    gi_wp2
    gi_region
    all_goals gi_wp2
    all_goals
      have hk0 : V.drew.heap[D']? = some (.deferred (some [])) := HK.out
      have hDV := (Array.getElem?_eq_some_iff.1 HK.out).1
      refine ⟨by simp, .inl ⟨_, _, rfl, run_takeDeferred hk0, ?_⟩⟩
      have hbel : Below w.heap.size w (V.drew.putObj D' (.deferred none)) := HB.out.drew.grown (grownBy_putObj' _ D' _) HB.out.size (fun k e => by cases e; omega)
      have hF1 : Fr (fun k => k = D') V (V.drew.putObj D' (.deferred none)) := ((Fr.refl _ V).drew).grown (grownBy_putObj' _ D' _) (fun k e _ => by cases e; rfl)
      have hrow := ownsRow_fr HR.out hF1 (fun k hk e => by
        obtain ⟨cs, hcs⟩ := own_row_cells HR.out k hk
        rw [e, HK.out] at hcs
        cases hcs)
      exact ⟨_, by simp [results, Try.results16, go_sem], b, cc, rfl, SrcV.ofOwn hrow (Ps.flat_cells _), hbel⟩

end Go.Proofs.Ytfclclnlmhbgiaa.Jp
