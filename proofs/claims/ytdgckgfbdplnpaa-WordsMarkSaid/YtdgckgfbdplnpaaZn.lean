/-
  Package words: the n-th of the places that an iterator tells (nth).
-/
import Derived.Test.YtdgckgfbdplnpaaZa
set_option linter.unusedVariables false
set_option linter.unusedSimpArgs false
set_option maxRecDepth 100000
namespace Go.Proofs.Ytdgckgfbdplnpaa.Wd
open Go Go.RowKit Go.Proofs.Ytdgckgfbdplnpaa.Vk Go.Proofs.Ytdgckgfbdplnpaa.Str Go.Proofs.Ytdgckgfbdplnpaa.Ln Go.Proofs.Ytdgckgfbdplnpaa.Cl Go.Proofs.Ytdgckgfbdplnpaa.Mv Go.Shelf
attribute [local go_sem] Oper.semAt_some

theorem three_rows (w : World) (A B C : Obj) : let W := ((w.alloc A).alloc B).alloc C
    W.heap.size = w.heap.size + 3 ∧ W.heap[w.heap.size]? = some A ∧ W.heap[w.heap.size + 1]? = some B ∧ W.heap[w.heap.size + 2]? = some C ∧ Below w.heap.size w W := by
  intro W
  have h0 : ∀ (x : World) (o : Obj), (x.alloc o).heap = x.heap.push o := fun _ _ => rfl
  refine ⟨by simp [W], ?_, ?_, ?_, ?_⟩
  all_goals try simp only [W, h0, Array.getElem?_push, Array.size_push]
  · rw [if_neg (by omega), if_neg (by omega), if_pos trivial]
  · rw [if_neg (by omega), if_pos trivial]
  · rw [if_pos trivial]
  · exact (((Below.refl _ w).alloc (Nat.le_refl _) A).alloc (by simp) B).alloc (by simp; omega) C
/-- A place and a bool, each handed back out of its variable. -/
theorem results_pos_bool {fn : Func} {p q : Tmp} (h : fn.results = #[.cell p 35, .cell q 4]) (tmps : Array Value) (w : World) (g g' : Nat) (l c : Int) (ok : Bool)
    (hp : tmps.getD p undef = .pointer (some ⟨g, 0, none⟩)) (hq : tmps.getD q undef = .pointer (some ⟨g', 0, none⟩)) (hg : PosAt w g l c) (hc : w.cell? ⟨g', 0, none⟩ = some (.bool ok)) :
    (results fn tmps).run Try.prog w = .ok (.tuple #[.agg #[.int .i64 l, .int .i64 c], .bool ok]) w := by
  have hp' : tmps[p]?.getD undef = .pointer (some ⟨g, 0, none⟩) := by simpa using hp
  have hq' : tmps[q]?.getD undef = .pointer (some ⟨g', 0, none⟩) := by simpa using hq
  have h0 := hg.c0
  have h1 := hg.c1
  clear hg
  simp only [results, h]
  go_simp
/-- The place's variable written anew. -/
theorem PosAt.set {w : World} {g : Nat} {l c : Int} (h : PosAt w g l c) (l' c' : Int) : PosAt ((w.setCell ⟨g, 0, none⟩ (.int .i64 l')).setCell ⟨g, 1, none⟩ (.int .i64 c')) g l' c' := So.set2 h

def nthU (x : P2 × Bool) : Value := .tuple #[.agg #[.int .i64 x.1.1, .int .i64 x.1.2], .bool x.2]

set_option maxHeartbeats 4000000 in
theorem nth_any {m : Nat} {xs : List P2} (v : Value) (K : Nat) (w : World) (h : Tells w v m xs) (hK : 1 ≤ K) (hK2 : K ≤ 1073741824) :
    Calls Try.prog 37 #[v, .int .i64 K] w fun e w' => e = .returned (nthU (nthV xs K)) ∧ Below w.heap.size w w' := by
  obtain ⟨g, lb, rfl, hen, hit⟩ := h
  refine (callsIn_wide (n := 9)).1 ?_
  refine callsIn_of_wp_marks Try.func37 rfl trivial ?_ rfl
  simp only [Try.ntmps37, List.size_toArray, List.length_cons, List.length_nil, Nat.reduceAdd, Nat.reduceSub, Array.replicate_succ, Array.replicate_zero, List.push_toArray, List.append_toArray, List.nil_append, List.cons_append]
  refine wpIn_mono (Q := noPanic _) ?_ (noPanic_out _)
  gi_wp2
  refine name_world ?_
  intro Wi hWi
  obtain ⟨M, hM⟩ : ∃ M, M = w.heap.size := ⟨_, rfl⟩
  obtain ⟨hsi, e0, e1, e2, bi⟩ := three_rows w (.cells #[.int .i64 K] 3) (.cells #[.int .i64 0, .int .i64 0] 35) (.cells #[.bool false] 4)
  rw [← hWi, ← hM] at hsi e0 e1 e2
  rw [← hWi] at bi
  rw [← hM]
  have hMi : M + 3 = Wi.heap.size := hsi.symm
  have hMw : w.heap.size ≤ M := by omega
  have hwM : M ≤ w.heap.size := by omega
  clear hsi hM hWi
  refine rangeFunc_iter (by omega) (gf := g) (lb := lb) rfl hen hit
    (fun h1 h2 => h1.trans h2) (knB (by omega)) bi (fun _ => rfl)
    (fun pre V => Kn w Wi V ∧ pre.length < K ∧ V.heap[M]? = some (.cells #[.int .i64 ((K - pre.length : Nat) : Int)] 3 (0, 0)) ∧ PosAt V (M + 1) 0 0 ∧ V.heap[M + 2]? = some (.cells #[.bool false] 4 (0, 0)))
    (fun c pre V => c = .ret ∧ Kn w Wi V ∧ (∃ p x, pre = p ++ [x] ∧ p.length + 1 = K ∧ PosAt V (M + 1) x.1 x.2) ∧ V.heap[M + 2]? = some (.cells #[.bool true] 4 (0, 0))) ?hI ?hIx ⟨Fr.refl _ _, by simp; omega, e0, e1, e2⟩ ?round ?done ?stop
  case hI =>
    rintro s A B row ⟨h1, h2, h3, h4, h5⟩ hg hr
    have hk : ∀ k, k < M + 3 → k < A.heap.size → B.heap[k]? = A.heap[k]? := fun k hk hkA => hg.block k hkA (fun e => by have := (hr _ e.symm).1; omega)
    exact ⟨own_kn (α := P2) (by omega) s A B row h1 hg hr, h2, (hk _ (by omega) (Array.getElem?_eq_some_iff.1 h3).1).trans h3, (hk _ (by omega) h4.lt).trans h4, (hk _ (by omega) (Array.getElem?_eq_some_iff.1 h5).1).trans h5⟩
  case hIx =>
    rintro c s A B row ⟨h1, h2, ⟨p, x, h3, h4, h5⟩, h6⟩ hg hr
    have hk : ∀ k, k < M + 3 → k < A.heap.size → B.heap[k]? = A.heap[k]? := fun k hk hkA => hg.block k hkA (fun e => by have := (hr _ e.symm).1; omega)
    exact ⟨h1, own_kn (α := P2) (by omega) s A B row h2 hg hr, ⟨p, x, h3, h4, (hk _ (by omega) h5.lt).trans h5⟩, (hk _ (by omega) (Array.getElem?_eq_some_iff.1 h6).1).trans h6⟩
  case stop =>
    rintro D c pre V hD ⟨rest, hpre⟩ hne ⟨rfl, hF, ⟨p, x, rfl, hpl, hx⟩, hb⟩ hk
    have hn : nthV xs K = (x, true) := nthV_eq (rest := rest) (by rw [← hpre]; simp) hpl
    have HNV := Lib.hid hn
    have HN := Lib.hid (And.intro hF (And.intro hx hb))
    clear hF hx hb hn
    gi_wp2
    refine ⟨by simp, .inl ⟨_, _, rfl, run_takeDeferred hk, ?_⟩⟩
    obtain ⟨hF, hx, hb⟩ := HN.out
    have hDM : M + 2 < D := by omega
    refine ⟨_, results_pos_bool rfl _ _ (M + 1) (M + 2) x.1 x.2 true rfl rfl ((World.putObj_heap_other (by omega)).trans hx) ((cell_of_row _ _ 0 _ _ _ ((World.putObj_heap_other (by omega)).trans hb)).trans (by simp)), by rw [HNV.out]; rfl, ?_⟩
    exact (Kn.below bi hF).grown (grownBy_putObj' _ D _) (Kn.below bi hF).size (fun k e => by cases e; omega)
  case done =>
    rintro D V hD ⟨hF, hl, h0, h1, h2⟩ hk
    have HNV := Lib.hid (nthV_no hl)
    have m0 := h1.c0
    have m1 := h1.c1
    have z0 := fun k => frozen_of_row V (M + 1) k _ _ h1
    have b0 : V.cell? ⟨M + 2, 0, none⟩ = some (.bool false) := (cell_of_row V _ 0 _ _ _ h2).trans (by simp)
    have z2 := frozen_of_row V (M + 2) 0 _ _ h2
    have HN := Lib.hid (And.intro hF (And.intro h1 (And.intro h2 hk)))
    clear hF h0 h1 h2 hk
    gi_wp2
    obtain ⟨hF, h1, h2, hk⟩ := HN.out
    obtain ⟨V1, hV1⟩ : ∃ V1, V1 = ((V.setCell ⟨M + 1, 0, none⟩ (.int .i64 0)).setCell ⟨M + 1, 1, none⟩ (.int .i64 0)).setCell ⟨M + 2, 0, none⟩ (.bool false) := ⟨_, rfl⟩
    have e1 : PosAt V1 (M + 1) 0 0 := by rw [hV1]; exact PosAt.other (So.set2 h1) (by omega)
    have e2 : V1.heap[M + 2]? = some (.cells #[.bool false] 4 (0, 0)) := by
      rw [hV1]
      exact (heap_setCell_same _ (M + 2) 0 _ _ (.bool false) ((So.set2_other (by omega)).trans h2)).trans (by simp)
    have e3 : V1.heap[D]? = some (.deferred (some [])) := by
      rw [hV1]
      exact ((Below.heap_setCell _ _ _ _ (by simp; omega)).trans (So.set2_other (by omega))).trans hk
    have e4 : Below w.heap.size w V1 := by
      rw [hV1]
      exact (((Kn.below bi hF).setCell (p := ⟨M + 1, 0, none⟩) (by simp; omega) _).setCell (p := ⟨M + 1, 1, none⟩) (by simp; omega) _).setCell (p := ⟨M + 2, 0, none⟩) (by simp; omega) _
    rw [hV1] at e1 e2 e3 e4
    refine ⟨by simp, .inl ⟨_, _, rfl, run_takeDeferred e3, ?_⟩⟩
    refine ⟨_, results_pos_bool rfl _ _ (M + 1) (M + 2) 0 0 false rfl rfl ((World.putObj_heap_other (by omega)).trans e1) ((cell_of_row _ _ 0 _ _ _ ((World.putObj_heap_other (by omega)).trans e2)).trans (by simp)), by rw [HNV.out]; rfl, ?_⟩
    exact e4.grown (grownBy_putObj' _ D _) e4.size (fun k e => by cases e; omega)
  case round =>
    rintro l' pre x V0 ⟨rest, hpr⟩ hsz0 hi0
    dsimp only [encp]
    have HI0 := Lib.hid hi0
    clear hi0
    gi_wp2
    obtain ⟨hF0, hl0, h00, h10, h20⟩ := HI0.out
    refine ⟨(Keep.refl _ _ _).alloc _ hsz0, (Fr.refl _ _).alloc _, ⟨hF0.alloc _, hl0, (Below.heap_alloc _ _ _ (by omega)).trans h00, (Below.heap_alloc _ _ _ (by omega)).trans h10, (Below.heap_alloc _ _ _ (by omega)).trans h20⟩, ?_⟩
    rintro V hgr hl - hszV ⟨hF, hlen, c0, c1, c2⟩
    obtain ⟨QB, hQB⟩ : ∃ QB, QB = V0.heap.size := ⟨_, rfl⟩
    have gq : PosAt V QB x.1 x.2 := by
      rw [hQB]
      exact (hgr.block _ (by simp) (by intro e; injection e with e; omega)).trans (heap_alloc_new V0 _)
    rw [← hQB]
    have hQM : M + 3 ≤ QB := by omega
    obtain ⟨r, hr⟩ : ∃ r, K - pre.length = r + 1 := ⟨K - pre.length - 1, by omega⟩
    rw [hr] at c0
    have n0 : V.cell? ⟨M, 0, none⟩ = some (.int .i64 ((r + 1 : Nat) : Int)) := (cell_of_row V _ 0 _ _ _ c0).trans (by simp)
    have nz := frozen_of_row V M 0 _ _ c0
    have hw : IntKind.i64.wrap (((r + 1 : Nat) : Int) - 1) = (r : Int) := by rw [IntKind.wrap_i64]; omega
    have q0 := gq.c0
    have q1 := gq.c1
    have p0 := c1.c0
    have p1 := c1.c1
    have pz := fun k => frozen_of_row V (M + 1) k _ _ c1
    have b0 : V.cell? ⟨M + 2, 0, none⟩ = some (.bool false) := (cell_of_row V _ 0 _ _ _ c2).trans (by simp)
    have bz := frozen_of_row V (M + 2) 0 _ _ c2
    have HV := Lib.hid (And.intro hF (And.intro hlen (And.intro c0 (And.intro c1 (And.intro c2 gq)))))
    have HR := Lib.hid hr
    have HPR := Lib.hid hpr
    clear hgr hl hF hlen c0 c1 c2 gq hQB HI0 hF0 hl0 h00 h10 h20 hr hpr hK hK2
    obtain ⟨A, hA⟩ : ∃ A : Nat, A = r + 1 := ⟨_, rfl⟩
    rw [← hA] at n0 hw
    have HA := Lib.hid hA
    clear hA
    rcases Nat.eq_zero_or_pos r with rfl | hr0
    · gi_wp2
      obtain ⟨hF, hlen, c0, c1, c2, gq⟩ := HV.out
      refine ⟨((((Keep.refl _ _ V).setCell (p := ⟨M, 0, none⟩) (by simp; omega) _).setCell (p := ⟨M + 1, 0, none⟩) (by simp; omega) _).setCell (p := ⟨M + 1, 1, none⟩) (by simp; omega) _).setCell (p := ⟨M + 2, 0, none⟩) (by simp; omega) _, rfl, ?_, ?_, ?_⟩
      · exact (((hF.setCell (p := ⟨M, 0, none⟩) (fun _ => by show w.heap.size ≤ M; omega) _).setCell (p := ⟨M + 1, 0, none⟩) (fun _ => by show w.heap.size ≤ M + 1; omega) _).setCell (p := ⟨M + 1, 1, none⟩) (fun _ => by show w.heap.size ≤ M + 1; omega) _).setCell (p := ⟨M + 2, 0, none⟩) (fun _ => by show w.heap.size ≤ M + 2; omega) _
      · have := HR.out
        exact ⟨pre, x, rfl, by omega, PosAt.other (So.set2 ((Below.heap_setCell _ _ _ _ (by simp)).trans c1)) (by omega)⟩
      · exact (heap_setCell_same _ (M + 2) 0 _ _ (.bool true) ((So.set2_other (by omega)).trans ((Below.heap_setCell _ _ _ _ (by simp)).trans c2))).trans (by simp)
    · have hr1 : ((r : Int) == 0) = false := by rw [beq_eq_false_iff_ne]; omega
      gi_wp2
      obtain ⟨hF, hlen, c0, c1, c2, gq⟩ := HV.out
      have := HR.out
      refine ⟨(Keep.refl _ _ V).setCell (p := ⟨M, 0, none⟩) (by simp; omega) _, (Fr.refl _ V).setCell (p := ⟨M, 0, none⟩) (fun _ => by show w.heap.size ≤ M; omega) _, hF.setCell (p := ⟨M, 0, none⟩) (fun _ => by show w.heap.size ≤ M; omega) _, by simp; omega, ?_, (Below.heap_setCell _ _ _ _ (by simp)).trans c1, (Below.heap_setCell _ _ _ _ (by simp)).trans c2⟩
      rw [show K - (pre ++ [x]).length = r by simp; omega]
      exact (heap_setCell_same V M 0 _ _ _ c0).trans (by simp)
end Go.Proofs.Ytdgckgfbdplnpaa.Wd
