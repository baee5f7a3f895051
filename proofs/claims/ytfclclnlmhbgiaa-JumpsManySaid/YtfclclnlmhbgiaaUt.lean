/-
  The document's Jumps: Push, Older, Newer, Adjust; places held against one another.
-/
import Derived.Test.YtfclclnlmhbgiaaUo
set_option linter.unusedVariables false
set_option linter.unusedSimpArgs false
set_option maxRecDepth 100000
namespace Go.Proofs.Ytfclclnlmhbgiaa.Jp
open Go Go.RowKit Go.Proofs.Ytfclclnlmhbgiaa.Vk Go.Proofs.Ytfclclnlmhbgiaa.Str Go.Proofs.Ytfclclnlmhbgiaa.Ln Go.Proofs.Ytfclclnlmhbgiaa.Cl Go.Proofs.Ytfclclnlmhbgiaa.Ml Go.Proofs.Ytfclclnlmhbgiaa.Mk Go.Shelf
attribute [local go_sem] Oper.semAt_some

abbrev JT : TypeId := 29
/-- The document's list at j: a row that nobody writes, and the index. -/
def RfX (w : World) (X : Nat → Prop) (j : Nat) (ps : List P2) (at' : Nat) : Prop := ∃ b c, w.heap[j]? = some (.cells #[.slice b ps.length c, .int .i64 at'] JT (0, 0)) ∧ SrcV w 2 (.slice b ps.length c) ps.length (Ps.flat ps) ∧
  ∀ k, blk (.slice b ps.length c) = some k → X k ∧ ∃ cs, w.heap[k]? = some (.cells cs VE (0, 0))
abbrev Rf (w : World) (j : Nat) (ps : List P2) (at' : Nat) : Prop := RfX w (fun _ => True) j ps at'
section
variable {w w' : World} {X : Nat → Prop} {j : Nat} {ps : List P2} {at' : Nat}
theorem Rf.imp (h : RfX w X j ps at') {Y : Nat → Prop} (hy : ∀ k, k < w.heap.size → X k → Y k) : RfX w Y j ps at' := by
  obtain ⟨b, c, h1, h2, h3⟩ := h
  refine ⟨b, c, h1, h2, fun k hk => ?_⟩
  obtain ⟨hx, cs, hcs⟩ := h3 k hk
  exact ⟨hy k (Array.getElem?_eq_some_iff.1 hcs).1 hx, cs, hcs⟩
/-- A block that is neither the list's own nor its row. -/
theorem Rf.fr2 (h : RfX w X j ps at') {i : Nat} (hf : Fr (fun k => k = i) w w') (hj : j ≠ i) (hx : ∀ k, X k → k ≠ i) : RfX w' X j ps at' := by
  obtain ⟨b, c, h2, h3, h4⟩ := h
  refine ⟨b, c, (hf.block j (Array.getElem?_eq_some_iff.1 h2).1 hj).trans h2, h3.fr hf (fun _ k hk => hx k (h4 k hk).1), fun k hk => ?_⟩
  obtain ⟨hx', cs', hcs⟩ := h4 k hk
  exact ⟨hx', cs', (hf.block k (Array.getElem?_eq_some_iff.1 hcs).1 (hx k hx')).trans hcs⟩
theorem Rf.lt (h : RfX w X j ps at') : j < w.heap.size := by
  obtain ⟨b, c, h1, _⟩ := h
  exact (Array.getElem?_eq_some_iff.1 h1).1
theorem Rf.fr (h : RfX w X j ps at') {i : Nat} (hf : Fr (fun k => k = i) w w') (hj : j ≠ i) {cs : Array Value} {t : TypeId} (hi : w.heap[i]? = some (.cells cs t (0, 0))) (h1 : t ≠ VE) : RfX w' X j ps at' := by
  have hl := Rf.lt h
  obtain ⟨b, c, h2, h3, h4⟩ := h
  have hne : ∀ k, blk (.slice b ps.length c) = some k → k ≠ i := fun k hk e => by
    obtain ⟨_, cs', hcs⟩ := h4 k hk
    rw [e, hi] at hcs
    simp only [Option.some.injEq, Obj.cells.injEq] at hcs
    exact h1 hcs.2.1
  refine ⟨b, c, (hf.block j hl hj).trans h2, h3.fr hf (fun _ k hk => hne k hk), fun k hk => ?_⟩
  obtain ⟨hx, cs', hcs⟩ := h4 k hk
  exact ⟨hx, cs', (hf.block k (Array.getElem?_eq_some_iff.1 hcs).1 (hne k hk)).trans hcs⟩
theorem Rf.below (h : RfX w X j ps at') (hb : Below w.heap.size w w') : RfX w' X j ps at' := by
  have hl := Rf.lt h
  obtain ⟨b, c, h2, h3, h4⟩ := h
  refine ⟨b, c, (hb.block j hl).trans h2, h3.below hb, fun k hk => ?_⟩
  obtain ⟨hx, cs', hcs⟩ := h4 k hk
  exact ⟨hx, cs', (hb.block k (Array.getElem?_eq_some_iff.1 hcs).1).trans hcs⟩
theorem Rf.new (w : World) : Rf (w.alloc (.cells #[.slice none 0 0, .int .i64 0] JT)) w.heap.size [] 0 :=
  ⟨none, 0, heap_alloc_new w _, SrcV.nil _ _, fun k hk => by simp [blk] at hk⟩
/-- What is read of a place. -/
theorem src_at {v : Value} {b : Option Addr} {n c : Nat} (h : SrcV w 2 (.slice b n c) n (Ps.flat ps)) (k : Nat) (q : P2) (hk : ps[k]? = some q) :
    ∃ g o, b = some ⟨g, o, none⟩ ∧ w.cell? ⟨g, o + k * 2, none⟩ = some (.int .i64 q.1) ∧ w.cell? ⟨g, o + k * 2 + 1, none⟩ = some (.int .i64 q.2) ∧ n ≤ c ∧ c ≤ 9223372036854775807 := by
  obtain ⟨hl, _, _, hc⟩ := h
  obtain ⟨hlt, _⟩ := List.getElem?_eq_some_iff.1 hk
  obtain ⟨h0, h1⟩ := Ps.flat_at ps k q hk
  rcases hc with ⟨ao, he, hn⟩ | ⟨g, o, c', he, hnc, hcm, hcell⟩
  · rw [hn, Ps.flat_length] at hl; omega
  · simp only [Value.slice.injEq, true_and] at he
    obtain ⟨rfl, rfl⟩ := he
    exact ⟨g, o, rfl, hcell _ _ h0, by have := hcell _ _ h1; rwa [← Nat.add_assoc] at this, hnc, by simpa [maxLen] using hcm⟩
/-- A row of one's own, a place appended to it. -/
theorem own_src {B N : Nat} {b : Option Addr} {c : Nat} (h : w.ownsRow B VE 2 (.slice b N c) N (Ps.flat ps)) : SrcV w 2 (.slice b N c) N (Ps.flat ps) ∧ ∀ k, blk (.slice b N c) = some k → B ≤ k ∧ ∃ cs, w.heap[k]? = some (.cells cs VE (0, 0)) := by
  refine ⟨SrcV.ofOwn h (Ps.flat_cells _), fun k hk => ?_⟩
  rcases h.2 with ⟨he, _⟩ | ⟨g, cap, cur, he, hb, hg, _⟩
  · simp only [Value.slice.injEq] at he
    rw [he.1] at hk
    simp [blk] at hk
  · simp only [Value.slice.injEq] at he
    rw [he.1] at hk
    simp [blk] at hk
    subst hk
    exact ⟨hb, cur, hg⟩
/-- What Push, Adjust leave in the list's own block. -/
theorem Rf.put {u v : Value} {b : Option Addr} {c n : Nat} {L : List P2} (hj : w.heap[j]? = some (.cells #[u, v] JT (0, 0))) (hn : L.length = n) (hs : SrcV w 2 (.slice b n c) n (Ps.flat L)) (hb : ∀ k, blk (.slice b n c) = some k → X k ∧ ∃ cs, w.heap[k]? = some (.cells cs VE (0, 0))) (i : Nat) :
    RfX ((w.setCell ⟨j, 0, none⟩ (.slice b n c)).setCell ⟨j, 1, none⟩ (.int .i64 (i : Int))) X j L i ∧ Fr (fun k => k = j) w ((w.setCell ⟨j, 0, none⟩ (.slice b n c)).setCell ⟨j, 1, none⟩ (.int .i64 (i : Int))) := by
  have hf : Fr (fun k => k = j) w ((w.setCell ⟨j, 0, none⟩ (.slice b n c)).setCell ⟨j, 1, none⟩ (.int .i64 (i : Int))) := fr_put (fr_put (Fr.refl _ w))
  have hne : ∀ k, blk (.slice b n c) = some k → k ≠ j := fun k hk e => by
    obtain ⟨_, cs, hcs⟩ := hb k hk
    rw [e, hj] at hcs
    simp only [Option.some.injEq, Obj.cells.injEq] at hcs
    exact absurd hcs.2.1 (by decide)
  subst hn
  refine ⟨⟨b, c, ?_, hs.fr hf (fun _ k hk => hne k hk), fun k hk => ?_⟩, hf⟩
  · have h1 := heap_setCell_same w j 0 _ _ (.slice b L.length c) hj
    exact (heap_setCell_same _ j 1 _ _ (.int .i64 (i : Int)) h1).trans (by simp)
  · obtain ⟨hx, cs, hcs⟩ := hb k hk
    exact ⟨hx, cs, (hf.block k (Array.getElem?_eq_some_iff.1 hcs).1 (hne k hk)).trans hcs⟩
theorem Rf.c0 (h : RfX w X j ps at') : ∃ b c, w.cell? ⟨j, 0, none⟩ = some (.slice b ps.length c) := by
  obtain ⟨b, c, h1, _⟩ := h
  exact ⟨b, c, (cell_of_row w _ 0 _ _ _ h1).trans (by simp)⟩
theorem Rf.c1 (h : RfX w X j ps at') : w.cell? ⟨j, 1, none⟩ = some (.int .i64 at') := by
  obtain ⟨b, c, h1, _⟩ := h
  exact (cell_of_row w _ 1 _ _ _ h1).trans (by simp)
theorem Rf.z (h : RfX w X j ps at') (k : Nat) : w.frozen? ⟨j, k, none⟩ = false := by
  obtain ⟨b, c, h1, _⟩ := h
  exact frozen_of_row w j k _ _ h1
theorem Rf.rowne (h : RfX w X j ps at') : RfX w (fun k => X k ∧ k ≠ j) j ps at' := by
  obtain ⟨b, c, h1, h2, h3⟩ := h
  refine ⟨b, c, h1, h2, fun k hk => ?_⟩
  obtain ⟨hx, cs, hcs⟩ := h3 k hk
  refine ⟨⟨hx, fun e => ?_⟩, cs, hcs⟩
  rw [e, h1] at hcs
  simp only [Option.some.injEq, Obj.cells.injEq] at hcs
  exact absurd hcs.2.1 (by decide)
theorem Rf.setixN (h : RfX w X j ps at') (i : Nat) : RfX (w.setCell ⟨j, 1, none⟩ (.int .i64 (i : Int))) X j ps i := by
  obtain ⟨b, c, h1, h2, h3⟩ := Rf.rowne h
  have hf : Fr (fun k => k = j) w (w.setCell ⟨j, 1, none⟩ (.int .i64 (i : Int))) := fr_put (Fr.refl _ w)
  refine ⟨b, c, (heap_setCell_same w j 1 _ _ (.int .i64 (i : Int)) h1).trans (by simp), h2.fr hf (fun _ k hk => (h3 k hk).1.2), fun k hk => ?_⟩
  obtain ⟨hx, cs, hcs⟩ := h3 k hk
  exact ⟨hx.1, cs, (hf.block k (Array.getElem?_eq_some_iff.1 hcs).1 hx.2).trans hcs⟩
/-- l[1:]. -/
theorem src_tail {g o N c : Nat} (h : SrcV w 2 (.slice (some ⟨g, o, none⟩) N c) N (Ps.flat ps)) (hN : ps.length = N) (h1 : 1 < N) : SrcV w 2 (.slice (some ⟨g, o + 2, none⟩) (N - 1) (c - 1)) (N - 1) (Ps.flat (ps.drop 1)) := by
  have hd := Ps.flat_drop ps 1 (by omega)
  obtain ⟨hl, ho, hm, hc⟩ := h
  refine ⟨by rw [Ps.flat_length, List.length_drop, hN], Ps.flat_cells _, by omega, ?_⟩
  rcases hc with ⟨ao, he, hn⟩ | ⟨g', o', c', he, hnc, hcm, hcell⟩
  · omega
  · simp only [Value.slice.injEq, Option.some.injEq, Addr.mk.injEq, and_true, true_and] at he
    obtain ⟨⟨rfl, rfl⟩, rfl⟩ := he
    refine .inr ⟨g, o + 2, c - 1, rfl, by omega, by omega, fun i u hu => ?_⟩
    rw [← hd, List.getElem?_drop] at hu
    have := hcell _ _ hu
    rwa [show o + 2 + i = o + (1 * 2 + i) by omega]
end

/-- Between the rounds of the document's loops. -/
def Jw (w1 : World) (B : Nat) (L : List P2) (b : Option Addr) (N c : Nat) (wr : World) : Prop := N = L.length ∧ wr.ownsRow B VE 2 (.slice b N c) N (Ps.flat L) ∧ Below B w1 wr

set_option maxHeartbeats 2000000 in
theorem rpush_any (j : Nat) (ps : List P2) (at' : Nat) (x y : Int) (w : World) (h : Rf w j ps at') (hn : ps.length ≤ 16) :
    Calls Try.prog 9 #[.pointer (some ⟨j, 0, none⟩), .agg #[.int .i64 x, .int .i64 y]] w fun e w' => e = .returned (.tuple #[]) ∧ RfX w' (fun k => w.heap.size ≤ k) j (pshL ps (x, y)) (pshL ps (x, y)).length ∧ Fr (fun k => k = j) w w' := by
  obtain ⟨i0, hi0, hz0, hz1, hz2⟩ := info_parts infoP
  have hj := Rf.lt h
  obtain ⟨w1, hw1⟩ : ∃ v, v = w.alloc (.cells #[.int .i64 x, .int .i64 y] 31) := ⟨_, rfl⟩
  have hb1 : Below w.heap.size w w1 := by rw [hw1]; exact (Below.refl _ w).alloc (Nat.le_refl _) _
  have s1 : w1.heap.size = w.heap.size + 1 := by rw [hw1]; simp
  have q1 : PosAt w1 w.heap.size x y := by rw [hw1]; exact PosAt.new w x y
  have h1 := Rf.below h hb1
  obtain ⟨M, hM⟩ : ∃ M, M = ps.length := ⟨_, rfl⟩
  obtain ⟨b0, c0, r1, r2, r3⟩ := h1
  rw [← hM] at r1 r2 r3
  have d0 : w1.cell? ⟨j, 0, none⟩ = some (.slice b0 M c0) := (cell_of_row w1 _ 0 _ _ _ r1).trans (by simp)
  have HR := Lib.hid (And.intro r1 (And.intro r2 r3))
  have HQ := Lib.hid q1
  have HD := Lib.hid d0
  have HM := Lib.hid hM
  clear h r1 r2 r3 q1 d0 hM
  go_enter Try.func9, Try.ntmps9
  go_wp2_with fail
  rw [← hw1]
  go_loopw [4, 5] (fun u i wr => ∃ (k N : Nat) (b : Option Addr) (c : Nat), k ≤ M ∧ u = .slice b N c ∧ i = .int .i64 k ∧ Hid (Jw w1 w1.heap.size ((ps.take k).filterMap (fP x)) b N c wr)) (fun _ i _ => M - (RowKit.intOf i).toNat)
  case atStart => exact ⟨0, 0, none, 0, Nat.zero_le _, rfl, rfl, Lib.hid ⟨rfl, World.ownsRow_nil _ _ _ _, Below.refl _ _⟩⟩
  case round =>
    obtain ⟨k, N, b, c, hk, rfl, rfl, HW⟩ := hrel
    have hbw := HW.out.2.2
    have d0 := cell_later hbw HD.out
    by_cases hkM : k < M
    · obtain ⟨q, hq⟩ : ∃ q, ps[k]? = some q := ⟨_, List.getElem?_eq_getElem (by have := HM.out; omega)⟩
      obtain ⟨g, o, rfl, e0, e1, hnc, hcm⟩ := src_at (v := undef) HR.out.2.1 k q hq
      have hkl : k < ps.length := by have := HM.out; omega
      have hqk : ps[k] = q := by
        rw [List.getElem?_eq_getElem hkl] at hq; injection hq
      have e0 := cell_later hbw e0
      have e1 := cell_later hbw e1
      have g0 := cell_later hbw HQ.out.c0
      obtain ⟨q1, q2⟩ := q
      have HK := Lib.hid hqk
      have HBW := Lib.hid hbw
      have hNM : N ≤ 16 := by
        have := HW.out.1
        have h1 := List.length_filterMap_le (fP x) (ps.take k)
        rw [List.length_take] at h1
        omega
      clear hq hqk hbw
      go_upto_region 5 with fail
      have HE := Lib.hid (And.intro e0 e1)
      have F_d0 := fun (C : World → Prop) (hC : Vs.Grows (fun _ => False) wr C) (z : Vs.In C) => hC.cell d0 (fun e => e) z
      have F_e0 := fun (C : World → Prop) (hC : Vs.Grows (fun _ => False) wr C) (z : Vs.In C) => hC.cell e0 (fun e => e) z
      have F_g0 := fun (C : World → Prop) (hC : Vs.Grows (fun _ => False) wr C) (z : Vs.In C) => hC.cell g0 (fun e => e) z
      clear d0 e0 g0
      refine Vs.wp_region_seg (S := (fun _ => False)) [0, 1, 2, 3, 4, 5, 6, 7, 8, 9, 10] [] (by kernel_rfl) (by kernel_rfl) 54 rfl (by kernel_rfl) ?_
      simp only [List.map_cons, List.map_nil, Vs.opOf_succ, Vs.opOf_zero]
      apply Exists.intro
      refine ⟨fun C hC => ?_, ?_⟩
      · haveI hI := hC.one
        have f_d0 := F_d0 C hC
        have f_e0 := F_e0 C hC
        have f_g0 := F_g0 C hC
        repeat (go_big_quiet_step (fail))
        exact wpQuiet_nil rfl
      clear F_d0 F_e0 F_g0
      refine Vs.wpPath_end ?_
      intro w2 hw2
      have HJ2 := Lib.hid (show Jw w1 w1.heap.size ((ps.take k).filterMap (fP x)) b N c w2 from ⟨HW.out.1, (ownsRow_fr HW.out.2.1 (Fr.ofBelow hw2 (fun _ => False)) (by simp)), HBW.out.trans (hw2.mono HBW.out.size)⟩)
      have d0 := cell_later HJ2.out.2.2 HD.out
      have e0 := cell_later hw2 HE.out.1
      have e1 := cell_later hw2 HE.out.2
      clear hw2
      by_cases hqx : q1 = x
      · have hbx : (q1 != x) = false := by rw [hqx]; simp
        have hf : fP x ps[k] = none := by rw [HK.out]; unfold fP; rw [if_pos hqx]
        have hrep := rep_none hkl hf
        have HRP := Lib.hid hrep
        clear hf hrep hqx
        go_wp2
        go_roundw
        case rel => exact ⟨k + 1, N, b, c, by omega, rfl, by go_num, by rw [HRP.out]; exact HJ2⟩
        case measure => simp [RowKit.intOf]; omega
      · have hbx : (q1 != x) = true := by simpa using hqx
        have hf : fP x ps[k] = some (q1, q2) := by rw [HK.out]; unfold fP; rw [if_neg hqx]
        have hrep := rep_some hkl hf
        have HRP := Lib.hid hrep
        clear hf hrep hqx
        go_wp2_with (at_builtin; go_must (refine append_srcv _ rfl _ _ 27 rfl w1.heap.size VE i0 (.agg #[.int .i64 0, .int .i64 0]) 2 16 underP hi0 hz0 hz1 hz2 rfl (by decide) (.slice b N c) N (Ps.flat ((ps.take k).filterMap (fP x))) rfl (ownsRow_fr HJ2.out.2.1 ((Fr.refl (fun _ => False) w2).alloc _) (by simp)) (.slice (some ⟨w2.heap.size, 0, none⟩) 1 1) 1 [.int .i64 q1, .int .i64 q2] rfl (Ps.SrcV.pos w2 q1 q2 31) (by simp only [maxLen]; omega) (by omega) (by have := HJ2.out.2.2.size; simp only [World.size_alloc]; omega) ?_); intro b' c' w3 hown hg hnr; have HO := Lib.hid (And.intro hown hg); clear hown hg hnr)
        obtain ⟨hown, hg⟩ := HO.out
        have hN1 : N + 1 = ((ps.take (k + 1)).filterMap (fP x)).length := by rw [HRP.out, List.length_append, List.length_singleton, ← HJ2.out.1]
        have hlo : ∀ r, (Value.slice b N c).ownBlock = some r → w1.heap.size ≤ r := fun r e => (HJ2.out.2.1.lt r e).1
        have hb3 : Below w1.heap.size w1 w3 := (HJ2.out.2.2.alloc HJ2.out.2.2.size _).grown hg (by have := HJ2.out.2.2.size; simp only [World.size_alloc]; omega) hlo
        have HN := Lib.hid (show Jw w1 w1.heap.size ((ps.take (k + 1)).filterMap (fP x)) b' (N + 1) c' w3 from ⟨hN1, by rw [HRP.out, Ps.flat_append]; exact hown, hb3⟩)
        clear hown hg hN1 hlo hb3
        go_wp2
        go_roundw
        case rel => exact ⟨k + 1, N + 1, b', c', by omega, rfl, by go_num, HN⟩
        case measure => simp [RowKit.intOf]; omega
    · obtain rfl : k = M := by omega
      have HW2 := Lib.hid (show Jw w1 w1.heap.size (ps.filterMap (fP x)) b N c wr from by have := HW.out; rwa [HM.out, List.take_length] at this)
      have hNM : N ≤ 16 := by
        have := HW2.out.1
        have h1 := List.length_filterMap_le (fP x) ps
        omega
      have g0 := cell_later hbw HQ.out.c0
      have g1 := cell_later hbw HQ.out.c1
      have hbwS := hbw.size
      have HBW := Lib.hid hbw
      clear hbw HW
      go_upto_region 8 with (at_builtin; go_must (refine append_srcv _ rfl _ _ 27 rfl w1.heap.size VE i0 (.agg #[.int .i64 0, .int .i64 0]) 2 16 underP hi0 hz0 hz1 hz2 rfl (by decide) (.slice b N c) N (Ps.flat (ps.filterMap (fP x))) rfl (ownsRow_fr HW2.out.2.1 ((Fr.refl (fun _ => False) wr).alloc _) (by simp)) (.slice (some ⟨wr.heap.size, 0, none⟩) 1 1) 1 [.int .i64 x, .int .i64 y] rfl (Ps.SrcV.pos wr x y 31) (by simp only [maxLen]; omega) (by omega) (by simp only [World.size_alloc]; omega) ?_); intro b' c' w3 hown hg hnr; have HO := Lib.hid (And.intro hown hg); clear hown hg hnr)
      obtain ⟨hown, hg⟩ := HO.out
      obtain ⟨gr, cur, hbe, hgb, -, hcc, hcm, -, -⟩ := VecQ.own_form hown (by omega)
      subst hbe
      obtain ⟨hsr, hsb⟩ := own_src (ps := ps.filterMap (fP x) ++ [(x, y)]) (by rw [Ps.flat_append]; exact hown)
      have hb3 : Below w1.heap.size w1 w3 := (HBW.out.alloc HBW.out.size _).grown hg (by simp only [World.size_alloc]; omega) (fun r e => (HW2.out.2.1.lt r e).1)
      have hj3 := (hb3.block j (by omega)).trans HR.out.1
      have c0' : w3.cell? ⟨j, 0, none⟩ = some (.slice b0 k c0) := (cell_of_row w3 _ 0 _ _ _ hj3).trans (by simp)
      have c1' : w3.cell? ⟨j, 1, none⟩ = some (.int .i64 at') := (cell_of_row w3 _ 1 _ _ _ hj3).trans (by simp)
      have f0 := frozen_of_row w3 j 0 _ _ hj3
      have f1 := frozen_of_row w3 j 1 _ _ hj3
      have hcm : c' ≤ 9223372036854775807 := by simpa [maxLen] using hcm
      have HS := Lib.hid (And.intro hsr (And.intro hsb (And.intro hb3 hj3)))
      have HNN := Lib.hid HW2.out.1
      clear hown hg hsr hsb hb3 hj3 HO HW2
      have hN17 : N + 1 ≤ 17 := by omega
      by_cases h16 : 16 < N + 1
      · have h16' : (16 : Int) < (N : Int) + 1 := by omega
        have hd16 : decide ((16 : Int) < (N : Int) + 1) = true := by simpa using h16'
        have hc1 : ¬ (c' = 1) := by omega
        have hlen : (ps.filterMap (fP x) ++ [(x, y)]).length = N + 1 := by rw [List.length_append, List.length_singleton, ← HNN.out]
        have hpe : pshL ps (x, y) = (ps.filterMap (fP x) ++ [(x, y)]).drop 1 := if_pos (by rw [hlen]; exact h16)
        have hpl : (pshL ps (x, y)).length = N := by rw [hpe, List.length_drop, hlen]; rfl
        have HP := Lib.hid (And.intro hlen (And.intro hpe hpl))
        clear hlen hpe hpl
        go_wp2
        go_end0
        obtain ⟨hlen, hpe, hpl⟩ := HP.out
        obtain ⟨hsr, hsb, hb3, hj3⟩ := HS.out
        have ht := src_tail hsr hlen (by omega)
        rw [← hpe] at ht
        simp only [Nat.add_sub_cancel, Nat.zero_add] at ht
        obtain ⟨p1, p2⟩ := Rf.put (X := fun k => w.heap.size ≤ k) hj3 hpl ht (fun r hr => ⟨by have := (hsb r (by simpa [blk] using hr)).1; omega, (hsb r (by simpa [blk] using hr)).2⟩) N
        rw [hpl]
        exact ⟨rfl, p1, ((Fr.ofBelow hb1 _).trans (Fr.ofBelow hb3 _)).trans p2⟩
      · have h16' : ¬ ((16 : Int) < (N : Int) + 1) := by omega
        have hd16 : decide ((16 : Int) < (N : Int) + 1) = false := by simpa using h16'
        have hlen : (ps.filterMap (fP x) ++ [(x, y)]).length = N + 1 := by rw [List.length_append, List.length_singleton, ← HNN.out]
        have hpe : pshL ps (x, y) = ps.filterMap (fP x) ++ [(x, y)] := if_neg (by rw [hlen]; exact h16)
        have hpl : (pshL ps (x, y)).length = N + 1 := by rw [hpe, hlen]
        have HP := Lib.hid (And.intro hlen (And.intro hpe hpl))
        clear hlen hpe hpl
        go_wp2
        go_end0
        obtain ⟨hlen, hpe, hpl⟩ := HP.out
        obtain ⟨hsr, hsb, hb3, hj3⟩ := HS.out
        rw [← hpe] at hsr
        obtain ⟨p1, p2⟩ := Rf.put (X := fun k => w.heap.size ≤ k) hj3 hpl hsr (fun r hr => ⟨by have := (hsb r hr).1; omega, (hsb r hr).2⟩) (N + 1)
        rw [hpl]
        exact ⟨rfl, p1, ((Fr.ofBelow hb1 _).trans (Fr.ofBelow hb3 _)).trans p2⟩

set_option maxHeartbeats 2000000 in
theorem rolder_no (j : Nat) (ps : List P2) (at' : Nat) (x y n : Int) (w : World) (h : Rf w j ps at') (hno : ¬ (1 ≤ n ∧ n ≤ at')) :
    Calls Try.prog 11 #[.pointer (some ⟨j, 0, none⟩), .agg #[.int .i64 x, .int .i64 y], .int .i64 n] w fun e w' => e = .returned (.tuple #[.agg #[.int .i64 0, .int .i64 0], .bool false]) ∧ Below w.heap.size w w' := by
  have hl := Rf.lt h
  have c1 := Rf.c1 h
  clear h
  have nl1 : ¬ (j = w.heap.size) := by omega
  have nl2 : ¬ (j = w.heap.size + 1) := by omega
  have ll1 : j < w.heap.size + 1 := by omega
  have hfin : ∀ W, W = (w.alloc (.cells #[.int .i64 x, .int .i64 y] 31)).alloc (.cells #[.int .i64 0, .int .i64 0] 31) → PosAt W (w.heap.size + 1) 0 0 ∧ Below w.heap.size w W := by
    rintro W rfl
    have h := PosAt.new (w.alloc (.cells #[.int .i64 x, .int .i64 y] 31)) 0 0
    simp only [World.size_alloc] at h
    exact ⟨h, ((Below.refl _ w).alloc (Nat.le_refl _) _).alloc (by simp) _⟩
  by_cases h1 : n < 1
  · go_enter Try.func11, Try.ntmps11
    go_wp2
    all_goals
      obtain ⟨f1, f2⟩ := hfin _ rfl
      exact ret_ps rfl rfl rfl rfl f1 ⟨rfl, f2⟩
  · have h2 : (at' : Int) < n := by omega
    go_enter Try.func11, Try.ntmps11
    go_wp2
    all_goals
      obtain ⟨f1, f2⟩ := hfin _ rfl
      exact ret_ps rfl rfl rfl rfl f1 ⟨rfl, f2⟩

set_option maxHeartbeats 2000000 in
theorem rolder_yes (j : Nat) (ps : List P2) (at' : Nat) (x y n : Int) (w : World) (h : Rf w j ps at') (hn : ps.length ≤ 16) (hat : at' ≤ ps.length) (hyes : 1 ≤ n ∧ n ≤ at') :
    Calls Try.prog 11 #[.pointer (some ⟨j, 0, none⟩), .agg #[.int .i64 x, .int .i64 y], .int .i64 n] w fun e w' => e = .returned (.tuple #[.agg #[.int .i64 (olQ ps at' (x, y) n).1, .int .i64 (olQ ps at' (x, y) n).2], .bool true]) ∧ Rf w' j (olL ps at' (x, y)) (olI ps at' (x, y) n) ∧ Fr (fun k => k = j) w w' := by
  have hl := Rf.lt h
  obtain ⟨hy1, hy2⟩ := hyes
  obtain ⟨m, rfl⟩ : ∃ m : Nat, n = m := ⟨n.toNat, by omega⟩
  have hLT := olI_lt (ps := ps) (at' := at') (q := (x, y)) (n := (m : Int)) hat
  have hLE := olL_le (ps := ps) (at' := at') (q := (x, y)) hn
  obtain ⟨L, hL⟩ : ∃ L, L = olL ps at' (x, y) := ⟨_, rfl⟩
  obtain ⟨K, hK⟩ : ∃ K, K = olK ps at' (x, y) := ⟨_, rfl⟩
  have hI : olI ps at' (x, y) m = K - m := by unfold olI; rw [← hK]; simp
  have hQ : olQ ps at' (x, y) m = L.getD (K - m) (0, 0) := by unfold olQ; rw [hI, ← hL]
  rw [hI, ← hL] at hLT
  rw [← hL] at hLE
  have hK17 : K ≤ 17 := by rw [hK]; unfold olK; have := pshL_le (q := (x, y)) hn; split <;> omega
  rw [← hL, hI, hQ]
  obtain ⟨q, hq⟩ : ∃ q, L[K - m]? = some q := ⟨_, List.getElem?_eq_getElem hLT⟩
  have hqd : L.getD (K - m) (0, 0) = q := by rw [List.getD_eq_getElem?_getD, hq]; rfl
  rw [hqd]
  obtain ⟨J, hJ⟩ : ∃ J, J = K - m := ⟨_, rfl⟩
  rw [← hJ] at hq hLT ⊢
  have HJ := Lib.hid hJ.symm
  have HKK := Lib.hid hK
  have HL := Lib.hid hL
  have HQQ := Lib.hid hq
  have hmax : max ((K : Int) - (m : Int)) 0 = ((K - m : Nat) : Int) := by omega
  have hJ17 : J ≤ 17 := by omega
  have c1 := Rf.c1 h
  have nl1 : ¬ (j = w.heap.size) := by omega
  have nl2 : ¬ (j = w.heap.size + 1) := by omega
  have ll1 : j < w.heap.size + 1 := by omega
  have n1 : ¬ ((m : Int) < 1) := by omega
  have n2 : ¬ ((at' : Int) < (m : Int)) := by omega
  have HH := Lib.hid h
  clear h hI hQ hqd hK hL hq hJ
  go_enter Try.func11, Try.ntmps11
  go_wp2_with fail
  obtain ⟨w1, hw1⟩ : ∃ v, v = (w.alloc (.cells #[.int .i64 x, .int .i64 y] 31)).alloc (.cells #[.int .i64 0, .int .i64 0] 31) := ⟨_, rfl⟩
  rw [← hw1]
  have hb1 : Below w.heap.size w w1 := by rw [hw1]; exact ((Below.refl _ w).alloc (Nat.le_refl _) _).alloc (by simp) _
  have s1 : w1.heap.size = w.heap.size + 2 := by rw [hw1]; simp
  have q0 : PosAt w1 w.heap.size x y := by rw [hw1]; exact (PosAt.new w x y).below ((Below.refl _ _).alloc (Nat.le_refl _) _) (by simp)
  have q1 : PosAt w1 (w.heap.size + 1) 0 0 := by
    rw [hw1]
    have h := PosAt.new (w.alloc (.cells #[.int .i64 x, .int .i64 y] 31)) 0 0
    simp only [World.size_alloc] at h
    exact h
  have h1 := Rf.below (Rf.imp HH.out (Y := fun k => k < w.heap.size) (fun k hk _ => hk)) hb1
  obtain ⟨bb, cc, d0⟩ := Rf.c0 h1
  have d1 := Rf.c1 h1
  have H1 := Lib.hid h1
  have HQ0 := Lib.hid q0
  have HQ1 := Lib.hid q1
  clear hw1 h1 q0 q1 c1
  have F_d0 := fun (C : World → Prop) (hC : Vs.Grows (fun _ => False) w1 C) (z : Vs.In C) => hC.cell d0 (fun e => e) z
  have F_d1 := fun (C : World → Prop) (hC : Vs.Grows (fun _ => False) w1 C) (z : Vs.In C) => hC.cell d1 (fun e => e) z
  clear d0 d1
  refine Vs.wp_region_seg (S := (fun _ => False)) [0, 1, 2, 3, 4, 5, 6, 7, 8, 9] [] (by kernel_rfl) (by kernel_rfl) 59 rfl (by kernel_rfl) ?_
  simp only [List.map_cons, List.map_nil, Vs.opOf_succ, Vs.opOf_zero]
  apply Exists.intro
  refine ⟨fun C hC => ?_, ?_⟩
  · haveI hI := hC.one
    have f_d0 := F_d0 C hC
    have f_d1 := F_d1 C hC
    repeat (go_big_quiet_step (fail))
    exact wpQuiet_nil rfl
  clear F_d0 F_d1
  refine Vs.wpPath_end ?_
  intro w2 hw2
  have hb2 := hb1.trans (hw2.mono hb1.size)
  have H2 := Lib.hid (Rf.below H1.out hw2)
  have HQ0 := Lib.hid (HQ0.out.below hw2 (by omega))
  have HQ1 := Lib.hid (HQ1.out.below hw2 (by omega))
  have hs2 := hw2.size
  clear hw2 H1 HH
  go_upto_if 28 with fail
  go_cut [6] from 28 to 38 (fun s6 wx => s6 = .pointer (some ⟨w.heap.size + 1, 0, none⟩) ∧ Hid (RfX wx (fun k => k ≠ w.heap.size + 1) j L K ∧ PosAt wx (w.heap.size + 1) 0 0 ∧ Fr (fun k => k = j) w wx))
  case first =>
    by_cases he : at' = ps.length
    · have he' : ((at' : Int) == (ps.length : Int)) = true := by rw [he]; simp
      have hKe : K = (pshL ps (x, y)).length - 1 := by rw [HKK.out]; unfold olK; rw [if_pos he]
      have hLe : L = pshL ps (x, y) := by rw [HL.out]; unfold olL; rw [if_pos he]
      have HLe := Lib.hid hLe
      clear hLe
      have HE := Lib.hid he
      clear he
      have hpos := pshL_pos (ps := ps) (q := (x, y))
      obtain ⟨N, hN⟩ : ∃ N, N = (pshL ps (x, y)).length := ⟨_, rfl⟩
      have z0 := HQ0.out.c0
      have z1 := HQ0.out.c1
      have hps := rpush_any j ps at' x y w2 (Rf.imp H2.out (fun _ _ _ => trivial)) hn
      rw [← hN] at hps hpos hKe
      have HP := Lib.hid hps
      have HN := Lib.hid hN
      have HKe := Lib.hid hKe
      have hKi : (N : Int) - 1 = (K : Int) := by omega
      clear hps hN hKe
      go_wp2_with fail
      refine HP.out.mono ?_
      rintro e w3 ⟨rfl, h3, hf3⟩
      have d1 := Rf.c1 h3
      have dz := Rf.z h3 1
      have hwr : IntKind.i64.wrap ((N : Int) - 1) = (K : Int) := by rw [IntKind.wrap_i64]; omega
      have H3 := Lib.hid h3
      have HF3 := Lib.hid hf3
      clear h3 hf3
      go_wp2
      go_meet
      case rel =>
        have h5 := Rf.setixN H3.out K
        rw [← HLe.out] at h5
        have f5 : Fr (fun k => k = j) w2 (w3.setCell ⟨j, 1, none⟩ (.int .i64 (K : Int))) := fr_put HF3.out
        exact ⟨rfl, Lib.hid ⟨Rf.imp h5 (fun k _ hk => by have h0 : w2.heap.size ≤ k := hk; omega), HQ1.out.fr f5 (by omega), (Fr.ofBelow hb2 _).trans f5⟩⟩
    · have he' : ((at' : Int) == (ps.length : Int)) = false := by rw [beq_eq_false_iff_ne]; omega
      have hKe : K = at' := by rw [HKK.out]; unfold olK; rw [if_neg he]
      have hLe : L = ps := by rw [HL.out]; unfold olL; rw [if_neg he]
      have HLe := Lib.hid hLe
      have HKe := Lib.hid hKe
      clear hLe hKe
      go_wp2
      go_meet
      case rel =>
        rw [HKe.out, HLe.out]
        exact ⟨rfl, Lib.hid ⟨Rf.imp H2.out (fun k _ hk => by have h0 : k < w.heap.size := hk; omega), HQ1.out, Fr.ofBelow hb2 _⟩⟩
  case rest =>
    obtain ⟨rfl, HC⟩ := hcut
    obtain ⟨h4, g4, f4⟩ := HC.out
    have hwr : IntKind.i64.wrap ((K : Int) - (m : Int)) = (K : Int) - (m : Int) := by rw [IntKind.wrap_i64]; omega
    have d1 := Rf.c1 h4
    have dz := Rf.z h4 1
    have H4 := Lib.hid h4
    have HG4 := Lib.hid g4
    have HF4 := Lib.hid f4
    clear h4 g4 f4 HC
    go_wp2_with fail
    rw [HJ.out]
    obtain ⟨w5, hw5⟩ : ∃ v, v = wc.setCell ⟨j, 1, none⟩ (.int .i64 (J : Int)) := ⟨_, rfl⟩
    rw [← hw5]
    have h5 := Rf.setixN H4.out J
    rw [← hw5] at h5
    have f5 : Fr (fun k => k = j) wc w5 := by rw [hw5]; exact fr_put (Fr.refl _ wc)
    have HG := Lib.hid (HG4.out.fr f5 (by omega))
    have HF5 := Lib.hid (HF4.out.trans f5)
    have d1 := Rf.c1 h5
    have H5 := Lib.hid h5
    obtain ⟨b5, c5, r1, r2, r3⟩ := h5
    have d0 : w5.cell? ⟨j, 0, none⟩ = some (.slice b5 L.length c5) := (cell_of_row w5 _ 0 _ _ _ r1).trans (by simp)
    obtain ⟨g5, o5, rfl, e0, e1, hnc, hcm⟩ := src_at (v := undef) r2 J q HQQ.out
    obtain ⟨q1, q2⟩ := q
    clear hw5 f5 hwr hmax dz HG4 H4 r1 r2 r3
    have F_d0 := fun (C : World → Prop) (hC : Vs.Grows (fun _ => False) w5 C) (z : Vs.In C) => hC.cell d0 (fun e => e) z
    have F_d1 := fun (C : World → Prop) (hC : Vs.Grows (fun _ => False) w5 C) (z : Vs.In C) => hC.cell d1 (fun e => e) z
    have F_e0 := fun (C : World → Prop) (hC : Vs.Grows (fun _ => False) w5 C) (z : Vs.In C) => hC.cell e0 (fun e => e) z
    have F_e1 := fun (C : World → Prop) (hC : Vs.Grows (fun _ => False) w5 C) (z : Vs.In C) => hC.cell e1 (fun e => e) z
    clear d0 d1 e0 e1
    refine Vs.wp_region_seg (S := (fun _ => False)) [0, 1, 2, 3, 4, 5, 6, 7, 8, 9] [(10, 3), (11, 2)] (by kernel_rfl) (by kernel_rfl) 59 rfl (by kernel_rfl) ?_
    simp only [List.map_cons, List.map_nil, Vs.opOf_succ, Vs.opOf_zero]
    apply Exists.intro
    refine ⟨fun C hC => ?_, ?_⟩
    · haveI hI := hC.one
      have f_d0 := F_d0 C hC
      have f_d1 := F_d1 C hC
      have f_e0 := F_e0 C hC
      have f_e1 := F_e1 C hC
      repeat (go_big_quiet_step (fail))
      exact wpQuiet_nil rfl
    clear F_d0 F_d1 F_e0 F_e1
    refine Vs.wpPath_store rfl ?_
    intro u hu
    have g9 := HG.out.below hu HG.out.lt
    have gc0 := g9.c0
    have gc1 := g9.c1
    have gz := fun j => g9.z j
    have gs := g9.set q1 q2
    refine ⟨(u.setCell ⟨w.heap.size + 1, 0, none⟩ (.int .i64 q1)).setCell ⟨w.heap.size + 1, 1, none⟩ (.int .i64 q2), rfl, by simp only [Vs.opOf_succ, Vs.opOf_zero]; go_simp, ?_⟩
    simp only [Vs.opOf_succ, Vs.opOf_zero, Act.put, List.setIfInBounds_toArray, List.set_cons_zero, List.set_cons_succ]
    have hf9 : Fr (fun k => k = w.heap.size + 1) w5 ((u.setCell ⟨w.heap.size + 1, 0, none⟩ (.int .i64 q1)).setCell ⟨w.heap.size + 1, 1, none⟩ (.int .i64 q2)) := fr_put (fr_put (Fr.ofBelow hu _))
    obtain ⟨v, hv⟩ : ∃ v, v = (u.setCell ⟨w.heap.size + 1, 0, none⟩ (.int .i64 q1)).setCell ⟨w.heap.size + 1, 1, none⟩ (.int .i64 q2) := ⟨_, rfl⟩
    rw [← hv] at gs hf9 ⊢
    clear hv g9 gc0 gc1 gz hu
    refine Vs.wpPath_free (v := .bool true) rfl rfl (fun _ => by simp only [Vs.opOf_succ, Vs.opOf_zero]; go_simp) ?_
    simp only [Vs.opOf_succ, Vs.opOf_zero, Act.put, List.setIfInBounds_toArray, List.set_cons_zero, List.set_cons_succ]
    refine Vs.wpPath_end ?_
    intro W hW
    have gs := gs.below hW gs.lt
    have hf9 := hf9.trans (Fr.ofBelow hW _)
    clear hW
    go_wp2_with fail
    have hH := Rf.fr2 H5.out hf9 (by omega) (fun k hk => hk)
    exact ret_ps rfl rfl rfl rfl gs ⟨rfl, Rf.imp hH (fun _ _ _ => trivial), (HF5.out.trans' hf9 (fun i hi e => by omega))⟩

end Go.Proofs.Ytfclclnlmhbgiaa.Jp
