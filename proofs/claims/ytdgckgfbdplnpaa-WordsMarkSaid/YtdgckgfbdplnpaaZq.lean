/-
  Package words: the n-th of the places ahead of a place, counted backward (nthBefore).
-/
import Derived.Test.YtdgckgfbdplnpaaZp
set_option linter.unusedVariables false
set_option linter.unusedSimpArgs false
set_option maxRecDepth 100000
namespace Go.Proofs.Ytdgckgfbdplnpaa.Wd
open Go Go.RowKit Go.Proofs.Ytdgckgfbdplnpaa.Vk Go.Proofs.Ytdgckgfbdplnpaa.Str Go.Proofs.Ytdgckgfbdplnpaa.Ln Go.Proofs.Ytdgckgfbdplnpaa.Cl Go.Proofs.Ytdgckgfbdplnpaa.Mv Go.Shelf
attribute [local go_sem] Oper.semAt_some

theorem rev_at {l : List P2} {k : Nat} (h0 : 1 ≤ k) (h : k ≤ l.length) : nthV l.reverse k = (l[l.length - k]'(by omega), true) := by
  unfold nthV
  rw [List.length_reverse, if_neg (by omega), List.getD_eq_getElem?_getD, List.getElem?_reverse (by omega), show l.length - 1 - (k - 1) = l.length - k by omega, List.getElem?_eq_getElem (by omega)]
  rfl
theorem wrap_id {x : Int} (h0 : -9223372036854775808 ≤ x) (h1 : x ≤ 9223372036854775807) : IntKind.i64.wrap x = x := by rw [IntKind.wrap_i64]; omega
theorem rev_no {l : List P2} {k : Nat} (h : l.length < k) : nthV l.reverse k = ((0, 0), false) := nthV_no (by rw [List.length_reverse]; exact h)

/-- What stands between the rounds. -/
def Bq (w Wi : World) (M D : Nat) (p : P2) (l : List P2) (V : World) : Prop :=
  Kn w Wi V ∧ PosAt V M p.1 p.2 ∧ PosAt V (M + 1) 0 0 ∧ GotP (M + 2) D l V ∧ ∀ q ∈ l, lp q p = true
theorem Bq.grown {w Wi : World} {M D B : Nat} {p : P2} {l : List P2} {A A' : World} {row : Option Nat} (h : Bq w Wi M D p l A) (hM : M + 3 ≤ B) (hB : w.heap.size ≤ B) (hg : A.grownBy A' row) (hr : ∀ r, row = some r → B ≤ r ∧ ∃ o : Obj, A.heap[r]? = some o ∧ o.isCells = false) : Bq w Wi M D p l A' := by
  obtain ⟨h1, h2, h3, h4, h5⟩ := h
  have hk : ∀ k, k < M + 3 → k < A.heap.size → A'.heap[k]? = A.heap[k]? := fun k hk hkA => hg.block k hkA (fun e => by have := (hr _ e.symm).1; omega)
  exact ⟨own_kn (α := P2) hB [] A A' row h1 hg hr, (hk _ (by omega) h2.lt).trans h2, (hk _ (by omega) h3.lt).trans h3, h4.grown (B := B) (by omega) hg hr, h5⟩
theorem Bq.below {w Wi : World} {M D : Nat} {p : P2} {l : List P2} {A A' : World} (h : Bq w Wi M D p l A) (hb : Below A.heap.size A A') : Bq w Wi M D p l A' :=
  ⟨h.1.trans (Fr.ofBelow hb _), h.2.1.below hb h.2.1.lt, h.2.2.1.below hb h.2.2.1.lt, h.2.2.2.1.below hb, h.2.2.2.2⟩

set_option maxHeartbeats 8000000 in
theorem nthBefore_any {m : Nat} {xs : List P2} (v : Value) (p : P2) (K : Nat) (w : World) (h : Tells w v m xs) (hso : xs.Pairwise fun a b => lp a b = true) (hxl : xs.length ≤ 1000000) (hK : 1 ≤ K) (hK2 : K ≤ 1073741824) :
    Calls Try.prog 44 #[v, .agg #[.int .i64 p.1, .int .i64 p.2], .int .i64 K] w fun e w' => e = .returned (nthU (nthV (bef xs p).reverse K)) ∧ Below w.heap.size w w' := by
  obtain ⟨g, lb, rfl, hen, hit⟩ := h
  obtain ⟨i0, hi0, hz0, hz1', hz2'⟩ := info_parts infoP
  refine (callsIn_wide (n := 9)).1 ?_
  refine callsIn_of_wp_marks Try.func44 rfl trivial ?_ rfl
  simp only [Try.ntmps44, List.size_toArray, List.length_cons, List.length_nil, Nat.reduceAdd, Nat.reduceSub, Array.replicate_succ, Array.replicate_zero, List.push_toArray, List.append_toArray, List.nil_append, List.cons_append]
  refine wpIn_mono (Q := noPanic _) ?_ (noPanic_out _)
  gi_wp2
  refine name_world ?_
  intro Wi hWi
  obtain ⟨M, hM⟩ : ∃ M, M = w.heap.size := ⟨_, rfl⟩
  obtain ⟨hsi, e0, e1, e2, bi⟩ := three_rows w (.cells #[.int .i64 p.1, .int .i64 p.2] 35) (.cells #[.int .i64 0, .int .i64 0] 35) (.cells #[.slice none 0 0] 25)
  rw [← hWi, ← hM] at hsi e0 e1 e2
  rw [← hWi] at bi
  rw [← hM]
  have hMi : M + 3 = Wi.heap.size := hsi.symm
  have hMw : w.heap.size ≤ M := by omega
  have hwM : M ≤ w.heap.size := by omega
  clear hM hWi
  refine rangeFunc_iter (by omega) (gf := g) (lb := lb) rfl hen hit
    (fun h1 h2 => h1.trans h2) (knB (by omega)) bi (fun _ => rfl)
    (fun pre V => Bq w Wi M (Wi.heap.size + 2 + m) p pre V)
    (fun c pre V => c = .exit 0 ∧ ∃ p0 x, pre = p0 ++ [x] ∧ lp x p = false ∧ Bq w Wi M (Wi.heap.size + 2 + m) p p0 V) ?hI ?hIx ⟨Fr.refl _ _, e0, e1, ⟨none, 0, e2, World.ownsRow_nil _ _ _ _⟩, by simp⟩ ?round ?done ?stop
  case hI => exact fun s A B row hs hg hr => hs.grown (B := Wi.heap.size) (by omega) (by omega) hg hr
  case hIx =>
    rintro c s A B row ⟨h1, p0, x, h2, h3, h4⟩ hg hr
    exact ⟨h1, p0, x, h2, h3, h4.grown (B := Wi.heap.size) (by omega) (by omega) hg hr⟩
  case stop =>
    rintro D c pre V hD ⟨rest, hpre⟩ hne ⟨rfl, L, x, rfl, hx, hB⟩ hk
    have hbf : bef xs p = L := bef_stop hso (rest := rest) (by rw [← hpre]; simp) hB.2.2.2.2 hx
    have hLl : L.length ≤ 1000000 := by have := congrArg List.length hpre; simp at this; omega
    have HQ := Lib.hid hB
    clear hB hx hpre
    obtain ⟨hF, hp, hr, ⟨b, cc, g1, hrow⟩, hall⟩ := HQ.out
    have y1 : V.cell? ⟨M + 2, 0, none⟩ = some (.slice b L.length cc) := (cell_of_row V _ 0 _ _ _ g1).trans (by simp)
    have r0 := hr.c0
    have r1 := hr.c1
    have rz := fun k => frozen_of_row V (M + 1) k _ _ hr
    have hps := Ps.ofOwn hrow
    have hbel := Kn.below bi hF
    have HK := Lib.hid (And.intro hk (And.intro hr hbel))
    have HB := Lib.hid hbf
    by_cases hKL : K ≤ L.length
    · obtain ⟨bb, oo, rfl, cx, cy, hnc⟩ := hps.read (L.length - K) (by omega)
      have hnv := rev_at hK hKL
      obtain ⟨i, hi⟩ : ∃ i, i = L.length - K := ⟨_, rfl⟩
      obtain ⟨q, hq⟩ : ∃ q : P2, q = L[L.length - K]'(by omega) := ⟨_, rfl⟩
      rw [← hq] at hnv
      have HNV := Lib.hid hnv
      rw [← hq, ← hi] at cx cy
      have hw : IntKind.i64.wrap ((L.length : Int) - K) = (i : Int) := by rw [wrap_id (by omega) (by omega)]; omega
      have hil : i < L.length := by omega
      have dK : decide (L.length < K) = false := decide_eq_false (by omega)
      clear hF hp hr g1 hrow hall hps hbel hk hi hnv hq hbf HQ hKL hsi
      gi_wp2
      obtain ⟨hk, hr, hbel⟩ := HK.out
      have e1 : PosAt ((V.setCell ⟨M + 1, 0, none⟩ (.int .i64 q.1)).setCell ⟨M + 1, 1, none⟩ (.int .i64 q.2)) (M + 1) q.1 q.2 := So.set2 hr
      have e3 : ((V.setCell ⟨M + 1, 0, none⟩ (.int .i64 q.1)).setCell ⟨M + 1, 1, none⟩ (.int .i64 q.2)).heap[D]? = some (.deferred (some [])) := (So.set2_other (by omega)).trans hk
      have e4 : Below w.heap.size w ((V.setCell ⟨M + 1, 0, none⟩ (.int .i64 q.1)).setCell ⟨M + 1, 1, none⟩ (.int .i64 q.2)) := (hbel.setCell (p := ⟨M + 1, 0, none⟩) (by simp; omega) _).setCell (p := ⟨M + 1, 1, none⟩) (by simp; omega) _
      refine ⟨by simp, .inl ⟨_, _, rfl, run_takeDeferred e3, ?_⟩⟩
      refine ⟨_, Mv.results_cell_tmp rfl _ _ (M + 1) _ _ _ _ _ rfl ((World.putObj_heap_other (by omega)).trans e1) rfl Try.underlying35 rfl (by kernel_rfl), ?_, ?_⟩
      · have h1 := HNV.out
        rw [← HB.out] at h1
        rw [h1]; rfl
      · exact e4.grown (grownBy_putObj' _ D _) e4.size (fun k e => by cases e; omega)
    · have HNV := Lib.hid (rev_no (l := L) (k := K) (by omega))
      have dK : decide (L.length < K) = true := decide_eq_true (by omega)
      clear hF hp hr g1 hrow hall hps hbel hk hbf HQ hKL hsi
      gi_wp2
      obtain ⟨hk, hr, hbel⟩ := HK.out
      have e1 : PosAt ((V.setCell ⟨M + 1, 0, none⟩ (.int .i64 0)).setCell ⟨M + 1, 1, none⟩ (.int .i64 0)) (M + 1) 0 0 := So.set2 hr
      have e3 : ((V.setCell ⟨M + 1, 0, none⟩ (.int .i64 0)).setCell ⟨M + 1, 1, none⟩ (.int .i64 0)).heap[D]? = some (.deferred (some [])) := (So.set2_other (by omega)).trans hk
      have e4 : Below w.heap.size w ((V.setCell ⟨M + 1, 0, none⟩ (.int .i64 0)).setCell ⟨M + 1, 1, none⟩ (.int .i64 0)) := (hbel.setCell (p := ⟨M + 1, 0, none⟩) (by simp; omega) _).setCell (p := ⟨M + 1, 1, none⟩) (by simp; omega) _
      refine ⟨by simp, .inl ⟨_, _, rfl, run_takeDeferred e3, ?_⟩⟩
      refine ⟨_, Mv.results_cell_tmp rfl _ _ (M + 1) _ _ _ _ _ rfl ((World.putObj_heap_other (by omega)).trans e1) rfl Try.underlying35 rfl (by kernel_rfl), ?_, ?_⟩
      · have h1 := HNV.out
        rw [← HB.out] at h1
        rw [h1]; rfl
      · exact e4.grown (grownBy_putObj' _ D _) e4.size (fun k e => by cases e; omega)
  case done =>
    rintro D V hD hB hk
    obtain ⟨L, hL⟩ : ∃ L, L = xs := ⟨_, rfl⟩
    rw [← hL] at hB
    have hbf : bef xs p = L := by rw [hL] at hB ⊢; exact bef_all hB.2.2.2.2
    have hLl : L.length ≤ 1000000 := by rw [hL]; exact hxl
    have HQ := Lib.hid hB
    clear hB hL
    obtain ⟨hF, hp, hr, ⟨b, cc, g1, hrow⟩, hall⟩ := HQ.out
    have y1 : V.cell? ⟨M + 2, 0, none⟩ = some (.slice b L.length cc) := (cell_of_row V _ 0 _ _ _ g1).trans (by simp)
    have r0 := hr.c0
    have r1 := hr.c1
    have rz := fun k => frozen_of_row V (M + 1) k _ _ hr
    have hps := Ps.ofOwn hrow
    have hbel := Kn.below bi hF
    have HK := Lib.hid (And.intro hk (And.intro hr hbel))
    have HB := Lib.hid hbf
    by_cases hKL : K ≤ L.length
    · obtain ⟨bb, oo, rfl, cx, cy, hnc⟩ := hps.read (L.length - K) (by omega)
      have hnv := rev_at hK hKL
      obtain ⟨i, hi⟩ : ∃ i, i = L.length - K := ⟨_, rfl⟩
      obtain ⟨q, hq⟩ : ∃ q : P2, q = L[L.length - K]'(by omega) := ⟨_, rfl⟩
      rw [← hq] at hnv
      have HNV := Lib.hid hnv
      rw [← hq, ← hi] at cx cy
      have hw : IntKind.i64.wrap ((L.length : Int) - K) = (i : Int) := by rw [wrap_id (by omega) (by omega)]; omega
      have hil : i < L.length := by omega
      have dK : decide (L.length < K) = false := decide_eq_false (by omega)
      clear hF hp hr g1 hrow hall hps hbel hk hi hnv hq hbf HQ hKL hsi
      gi_wp2
      obtain ⟨hk, hr, hbel⟩ := HK.out
      have e1 : PosAt ((V.setCell ⟨M + 1, 0, none⟩ (.int .i64 q.1)).setCell ⟨M + 1, 1, none⟩ (.int .i64 q.2)) (M + 1) q.1 q.2 := So.set2 hr
      have e3 : ((V.setCell ⟨M + 1, 0, none⟩ (.int .i64 q.1)).setCell ⟨M + 1, 1, none⟩ (.int .i64 q.2)).heap[D]? = some (.deferred (some [])) := (So.set2_other (by omega)).trans hk
      have e4 : Below w.heap.size w ((V.setCell ⟨M + 1, 0, none⟩ (.int .i64 q.1)).setCell ⟨M + 1, 1, none⟩ (.int .i64 q.2)) := (hbel.setCell (p := ⟨M + 1, 0, none⟩) (by simp; omega) _).setCell (p := ⟨M + 1, 1, none⟩) (by simp; omega) _
      refine ⟨by simp, .inl ⟨_, _, rfl, run_takeDeferred e3, ?_⟩⟩
      refine ⟨_, Mv.results_cell_tmp rfl _ _ (M + 1) _ _ _ _ _ rfl ((World.putObj_heap_other (by omega)).trans e1) rfl Try.underlying35 rfl (by kernel_rfl), ?_, ?_⟩
      · have h1 := HNV.out
        rw [← HB.out] at h1
        rw [h1]; rfl
      · exact e4.grown (grownBy_putObj' _ D _) e4.size (fun k e => by cases e; omega)
    · have HNV := Lib.hid (rev_no (l := L) (k := K) (by omega))
      have dK : decide (L.length < K) = true := decide_eq_true (by omega)
      clear hF hp hr g1 hrow hall hps hbel hk hbf HQ hKL hsi
      gi_wp2
      obtain ⟨hk, hr, hbel⟩ := HK.out
      have e1 : PosAt ((V.setCell ⟨M + 1, 0, none⟩ (.int .i64 0)).setCell ⟨M + 1, 1, none⟩ (.int .i64 0)) (M + 1) 0 0 := So.set2 hr
      have e3 : ((V.setCell ⟨M + 1, 0, none⟩ (.int .i64 0)).setCell ⟨M + 1, 1, none⟩ (.int .i64 0)).heap[D]? = some (.deferred (some [])) := (So.set2_other (by omega)).trans hk
      have e4 : Below w.heap.size w ((V.setCell ⟨M + 1, 0, none⟩ (.int .i64 0)).setCell ⟨M + 1, 1, none⟩ (.int .i64 0)) := (hbel.setCell (p := ⟨M + 1, 0, none⟩) (by simp; omega) _).setCell (p := ⟨M + 1, 1, none⟩) (by simp; omega) _
      refine ⟨by simp, .inl ⟨_, _, rfl, run_takeDeferred e3, ?_⟩⟩
      refine ⟨_, Mv.results_cell_tmp rfl _ _ (M + 1) _ _ _ _ _ rfl ((World.putObj_heap_other (by omega)).trans e1) rfl Try.underlying35 rfl (by kernel_rfl), ?_, ?_⟩
      · have h1 := HNV.out
        rw [← HB.out] at h1
        rw [h1]; rfl
      · exact e4.grown (grownBy_putObj' _ D _) e4.size (fun k e => by cases e; omega)
  case round =>
    rintro l' pre x V0 ⟨rest, hpr⟩ hsz0 hi0
    dsimp only [encp]
    have HI0 := Lib.hid hi0
    have hpl : pre.length ≤ 1000000 := by have := congrArg List.length hpr; simp at this; omega
    clear hi0
    gi_wp2
    refine ⟨(Keep.refl _ _ _).alloc _ hsz0, (Fr.refl _ _).alloc _, HI0.out.below ((Below.refl _ V0).alloc (Nat.le_refl _) _), ?_⟩
    rintro V hgr hl - hszV hB
    obtain ⟨QB, hQB⟩ : ∃ QB, QB = V0.heap.size := ⟨_, rfl⟩
    have gq : PosAt V QB x.1 x.2 := by
      rw [hQB]
      exact (hgr.block _ (by simp) (by intro e; injection e with e; omega)).trans (heap_alloc_new V0 _)
    rw [← hQB]
    have hQM : M + 3 ≤ QB := by omega
    have p0 := hB.2.1.c0
    have p1 := hB.2.1.c1
    have q0 := gq.c0
    have q1 := gq.c1
    have hls := So.less_any x.1 x.2 p.1 p.2 V
    have HV := Lib.hid (And.intro hB gq)
    clear hgr hl hB gq hQB HI0 hK hK2 hsi
    cases hlp : lp x p
    · rw [show So.lt x.1 x.2 p.1 p.2 = false from hlp] at hls
      gi_wp2_with fail
      refine ⟨trivial, ?_⟩
      refine (CallsIn.inRound l' (callsIn_wide.2 hls)).mono ?_
      rintro e V2 ⟨rfl, hb2⟩
      clear hls p0 p1 q0 q1
      gi_wp2
      refine ⟨Keep.ofFr (Fr.ofBelow hb2 (fun _ => False)) hszV (fun k e => e.elim), rfl, pre, x, rfl, hlp, HV.out.1.below hb2⟩
    · rw [show So.lt x.1 x.2 p.1 p.2 = true from hlp] at hls
      gi_wp2_with fail
      refine ⟨trivial, ?_⟩
      refine (CallsIn.inRound l' (callsIn_wide.2 hls)).mono ?_
      rintro e V2 ⟨rfl, hb2⟩
      clear hls p0 p1 q0 q1
      have hB2 := HV.out.1.below hb2
      have hq2 := HV.out.2.below hb2 HV.out.2.lt
      have hk2 : Keep Wi.heap.size (Wi.heap.size + 2 + m) V V2 := Keep.ofFr (Fr.ofBelow hb2 (fun _ => False)) hszV (fun k e => e.elim)
      have hsz2 := hk2.size
      obtain ⟨b, cc, g1, hrow⟩ := hB2.2.2.2.1
      have y2 : V2.cell? ⟨M + 2, 0, none⟩ = some (.slice b pre.length cc) := (cell_of_row V2 _ 0 _ _ _ g1).trans (by simp)
      have q2 := hq2.c0
      have q3 := hq2.c1
      have hrow3 := ownsRow_fr hrow ((Fr.refl (fun _ => False) V2).alloc (.cells #[.int .i64 x.1, .int .i64 x.2] EP)) (by simp)
      have hob : ∀ g, (Value.slice b pre.length cc).ownBlock = some g → Wi.heap.size + 2 + m ≤ g := fun g hg => (hrow.lt g hg).1
      have hst : ∀ V4, (V2.alloc (.cells #[.int .i64 x.1, .int .i64 x.2] EP)).grownBy V4 (Value.slice b pre.length cc).ownBlock → V4.heap[M + 2]? = some (.cells #[.slice b pre.length cc] 25 (0, 0)) := fun V4 hg4 =>
        (hg4.block (M + 2) (by have := (Array.getElem?_eq_some_iff.1 g1).1; simp; omega) (by intro e; have := hob _ e.symm; omega)).trans ((Below.heap_alloc _ _ _ (by have := (Array.getElem?_eq_some_iff.1 g1).1; exact this)).trans g1)
      have HO3 := Lib.hid hob
      have HST := Lib.hid hst
      have HR3 := Lib.hid hrow3
      have HS3 := Lib.hid (SrcV.pos V2 x.1 x.2)
      have HP := Lib.hid (And.intro hB2 (And.intro hk2 (And.intro hb2 hlp)))
      have hszz : Wi.heap.size + 2 + m ≤ V2.heap.size + 1 := by omega
      clear hB2 hk2 hb2 g1 hrow hrow3 hob hst hq2 hlp
      gi_wp2_with (gi_at_builtin; go_must (refine wpListIn_append_srcv _ rfl _ _ 25 rfl (Wi.heap.size + 2 + m) EP i0 (.agg #[.int .i64 0, .int .i64 0]) 2 16 underP hi0 hz0 hz1' hz2' rfl (by decide) (.slice b pre.length cc) pre.length (flat pre) rfl HR3.out (.slice (some ⟨V2.heap.size, 0, none⟩) 1 1) 1 [.int .i64 x.1, .int .i64 x.2] rfl HS3.out (by simp only [maxLen]; omega) (by omega) (by simp; omega) ?_); intro ob oc V4 hown hg hnr; have y4 : V4.cell? ⟨M + 2, 0, none⟩ = some (.slice b pre.length cc) := (cell_of_row V4 _ 0 _ _ _ (HST.out V4 hg)).trans (by simp); have z4 : V4.frozen? ⟨M + 2, 0, none⟩ = false := frozen_of_row V4 _ 0 _ _ (HST.out V4 hg); have HO := Lib.hid (And.intro hown hg); clear hown hg hnr)
      obtain ⟨hown, hg⟩ := HO.out
      obtain ⟨hB2, hk2, hb2, hlp⟩ := HP.out
      have g4 := HST.out V4 hg
      have f4 : Fr (fun k => k = M + 2 ∨ (Value.slice b pre.length cc).ownBlock = some k) V2 V4 := Fr.grown ((Fr.refl _ V2).alloc _) hg (fun k e _ => .inr e)
      have f7 := f4.setCell (p := ⟨M + 2, 0, none⟩) (fun _ => .inl rfl) (.slice ob (pre.length + 1) oc)
      have k7 : Kn w V2 (V4.setCell ⟨M + 2, 0, none⟩ (.slice ob (pre.length + 1) oc)) := f7.mono (fun i _ e => by
        show w.heap.size ≤ i
        rcases e with e | e
        · omega
        · have := HO3.out i e; omega)
      have key : ∀ k, k < M + 2 → k < V2.heap.size → (V4.setCell ⟨M + 2, 0, none⟩ (.slice ob (pre.length + 1) oc)).heap[k]? = V2.heap[k]? := fun k hk hk2 => f7.block k hk2 (fun e => by
        rcases e with e | e
        · omega
        · have := HO3.out k e; omega)
      have hll : (pre ++ [x]).length = pre.length + 1 := by simp
      refine ⟨hk2.trans (Keep.ofFr f7 (by omega) (fun i e => by
        rcases e with e | e
        · exact .inl (by omega)
        · exact .inr (HO3.out i e))), (Fr.ofBelow hb2 _).trans k7, hB2.1.trans k7, (key _ (by omega) hB2.2.1.lt).trans hB2.2.1, (key _ (by omega) hB2.2.2.1.lt).trans hB2.2.2.1, ⟨ob, oc, ?_, ?_⟩, ?_⟩
      · rw [hll]
        exact (heap_setCell_same V4 (M + 2) 0 _ _ _ g4).trans (by simp)
      · rw [hll, flat_append, flat_one]
        exact ownsRow_fr hown ((Fr.refl (fun k => k = M + 2) V4).setCell (p := ⟨M + 2, 0, none⟩) (fun _ => rfl) _) (fun i hi e => by have := (hown.lt i hi).1; omega)
      · intro q hq
        rcases List.mem_append.1 hq with hq | hq
        · exact hB2.2.2.2.2 q hq
        · simp only [List.mem_singleton] at hq
          rw [hq]; exact hlp
end Go.Proofs.Ytdgckgfbdplnpaa.Wd
