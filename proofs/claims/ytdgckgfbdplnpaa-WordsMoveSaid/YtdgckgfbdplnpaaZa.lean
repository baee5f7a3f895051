/-
  Package words: the places after (at or after) a place, one by one; Starts, Ends; any iterator of places told by its list.
-/
import Derived.Test.YtdgckgfbdplnpaaZi
import Derived.Deep.AppendSrc
set_option linter.unusedVariables false
set_option linter.unusedSimpArgs false
set_option maxRecDepth 100000
namespace Go.Proofs.Ytdgckgfbdplnpaa.Wd
open Go Go.RowKit Go.Proofs.Ytdgckgfbdplnpaa.Vk Go.Proofs.Ytdgckgfbdplnpaa.Str Go.Proofs.Ytdgckgfbdplnpaa.Ln Go.Proofs.Ytdgckgfbdplnpaa.Cl Go.Proofs.Ytdgckgfbdplnpaa.Mv Go.Shelf
attribute [local go_sem] Oper.semAt_some

theorem grown_below {V V2 : World} (h : Below V.heap.size V V2) : V.grownBy V2 none := ⟨h.os, h.tape, h.output, h.size, fun k hk _ => h.block k hk⟩
theorem knB {w Wi : World} (hB : w.heap.size ≤ Wi.heap.size) : ∀ (V : World) (l : Nat) (o o' : Obj), Wi.heap.size ≤ l → V.heap[l]? = some o → o.isCells = false → o.isWalk = false → Kn w V (V.putObj l o') :=
  fun V l o o' hl ho _ _ => Fr.grown (Fr.refl _ V) (grownBy_putObj' V l o') (fun k e _ => by cases e; show w.heap.size ≤ l; omega)
theorem own_at {α : Type} {B k : Nat} (hk : k < B) (O : Obj) : OwnFrom B (fun (_ : List α) (V : World) => V.heap[k]? = some O) :=
  fun s A B' row hs hg hr => (hg.block _ (Array.getElem?_eq_some_iff.1 hs).1 (fun e => by have := (hr _ e.symm).1; omega)).trans hs
theorem own_kn {α : Type} {w W : World} {B : Nat} (hB : w.heap.size ≤ B) : OwnFrom B (fun (_ : List α) (V : World) => Kn w W V) :=
  fun s A B' row hs hg hr => Fr.grown hs hg (fun k e _ => by have := (hr k e).1; show w.heap.size ≤ k; omega)

/-- Those of a list that keep a condition. -/
theorem flt_yes {pr : P2 → Bool} {xs pre rest : List P2} {x : P2} (h : xs = pre ++ x :: rest) (hx : pr x = true) : (∃ r, xs.filter pr = pre.filter pr ++ x :: r) ∧ (pre ++ [x]).filter pr = pre.filter pr ++ [x] := by
  subst h
  refine ⟨⟨rest.filter pr, ?_⟩, ?_⟩
  · rw [List.filter_append, List.filter_cons_of_pos hx]
  · rw [List.filter_append, List.filter_cons_of_pos hx]; rfl
theorem flt_no {pr : P2 → Bool} {pre : List P2} {x : P2} (hx : pr x = false) : (pre ++ [x]).filter pr = pre.filter pr := by
  rw [List.filter_append, List.filter_cons_of_neg (by rw [hx]; simp)]; simp

/-- A function value that tells a list of places. -/
def Tells (w : World) (v : Value) (m : Nat) (xs : List P2) : Prop :=
  ∃ g lb, v = .func (.func g) #[] lb ∧ (∀ args w', (callFunc g args).run Try.prog w' = .ok (.enter g args) w') ∧ Iter Try.prog g lb encp m (Kn w) xs w
theorem yieldAt_mono {F : Fence} {n : Nat} {P : Program} {l : Nat} {args : Array Value} {W : World} {R R' : Ending → World → Prop} (h : YieldAt F n P l args W R) (hR : ∀ e W', R e W' → R' e W') : YieldAt F n P l args W R' := by
  obtain ⟨fn, tmps, assign, body, hy, hRd⟩ := h
  exact ⟨fn, tmps, assign, body, hy, hRd.mono hR⟩
theorem iter_kp {α : Type} {P : Program} {g : Nat} {lb : Array Value} {encs : α → Array Value} {m : Nat} {Kp Kp' : World → World → Prop} {xs : List α} {w : World} (h : Iter P g lb encs m Kp xs w) (hk : ∀ A B, Kp' A B → Kp A B) : Iter P g lb encs m Kp' xs w :=
  fun l J Jx W hW hJ hJx hY h0 => h l J Jx W hW hJ hJx (fun pre x W1 hp hs hj => yieldAt_mono (hY pre x W1 hp hs hj) (fun e W' hh => ⟨hh.1, hh.2.imp (fun q => ⟨q.1, q.2.1, hk _ _ q.2.2⟩) id⟩)) h0
theorem kn_of {w w' A B : World} (hb : w.heap.size ≤ w'.heap.size) (h : Kn w' A B) : Kn w A B := h.mono (fun i _ e => Nat.le_trans hb e)
theorem Tells.later {w w' : World} {v : Value} {m : Nat} {xs : List P2} (h : Tells w v m xs) (hb : Below w.heap.size w w') : Tells w' v m xs := by
  obtain ⟨g, lb, h1, h2, h3⟩ := h
  exact ⟨g, lb, h1, h2, iter_kp (h3.later hb) (fun A B hh => kn_of hb.size hh)⟩

theorem starts_tells (a : Option Addr) (n c : Nat) (ls : List ByteArray) (big : Bool) (w : World) (h : Ss w a n c ls) (hs : ∀ s ∈ ls, s.size ≤ 140737488355328) : Calls Try.prog 28 #[.slice a n c, .bool big] w fun e w' =>
    ∃ v, e = .returned v ∧ Tells w' v 0 (sts big ls) ∧ Below w.heap.size w w' := by
  refine (starts_new a n c big w).mono ?_
  rintro e w' ⟨rfl, rfl⟩
  have hb := two_below w (.cells #[.slice a n c] 22) (.cells #[.bool big] 4)
  refine ⟨_, rfl, ⟨_, _, rfl, enters_of Try.func47 (by kernel_rfl) rfl, ?_⟩, hb⟩
  refine starts_iter _ _ _ big (SrcV.below h hb) hs ?_ ?_
  · exact cell_one ((cell_of_row _ _ 0 _ _ _ (heap_alloc_new w _)).trans (by simp)) _
  · exact (cell_of_row _ _ 0 _ _ _ (two_new w _ _)).trans (by simp)
theorem ends_tells (a : Option Addr) (n c : Nat) (ls : List ByteArray) (big : Bool) (w : World) (h : Ss w a n c ls) (hs : ∀ s ∈ ls, s.size ≤ 140737488355328) : Calls Try.prog 30 #[.slice a n c, .bool big] w fun e w' =>
    ∃ v, e = .returned v ∧ Tells w' v 0 (eds big ls) ∧ Below w.heap.size w w' := by
  refine (ends_new a n c big w).mono ?_
  rintro e w' ⟨rfl, rfl⟩
  have hb := two_below w (.cells #[.slice a n c] 22) (.cells #[.bool big] 4)
  refine ⟨_, rfl, ⟨_, _, rfl, enters_of Try.func49 (by kernel_rfl) rfl, ?_⟩, hb⟩
  refine ends_iter _ _ _ big (SrcV.below h hb) hs ?_ ?_
  · exact cell_one ((cell_of_row _ _ 0 _ _ _ (heap_alloc_new w _)).trans (by simp)) _
  · exact (cell_of_row _ _ 0 _ _ _ (two_new w _ _)).trans (by simp)

set_option maxHeartbeats 4000000 in
theorem after_iter {g : Nat} {lb : Array Value} {m : Nat} {xs : List P2} (w : World) (bl bp : Nat) (p : P2) (hg : ∀ args w', (callFunc g args).run Try.prog w' = .ok (.enter g args) w') (hit : Iter Try.prog g lb encp m (Kn w) xs w)
    (h0 : w.cell? ⟨bl, 0, none⟩ = some (.func (.func g) #[] lb)) (h1 : PosAt w bp p.1 p.2) :
    Iter Try.prog 52 #[.pointer (some ⟨bl, 0, none⟩), .pointer (some ⟨bp, 0, none⟩)] encp (m + 3) (Kn w) (aft xs p) w := fun l J Jx W hW hJ hJx hY hj0 => by
  have hws := hW.size
  have d0 := cell_one (Kn.cell hW (Fr.refl _ W) h0) (.cells #[.func (.yield l) #[] #[]] 66)
  have HY := Lib.hid hY
  have H1 := Lib.hid h1
  clear hY h1 h0
  refine callsIn_of_wp_marks Try.func52 rfl trivial ?_ rfl
  simp only [Try.ntmps52, List.size_toArray, List.length_cons, List.length_nil, Nat.reduceAdd, Nat.reduceSub, Array.replicate_succ, Array.replicate_zero, List.push_toArray, List.append_toArray, List.nil_append, List.cons_append]
  refine wpIn_mono (Q := noPanic _) ?_ (noPanic_out _)
  gi_wp2
  refine name_world ?_
  intro Wi hWi
  have bi : Below W.heap.size W Wi := by rw [hWi]; exact (Below.refl _ W).alloc (Nat.le_refl _) _
  have e0 : Wi.heap[W.heap.size]? = some (.cells #[.func (.yield l) #[] #[]] 66 (0, 0)) := by rw [hWi]; exact heap_alloc_new W _
  have hsi : Wi.heap.size = W.heap.size + 1 := by rw [hWi]; simp
  have hji : J [] Wi := by rw [hWi]; exact hJ.alloc _ hj0
  have hb : Below w.heap.size w Wi := hW.trans (bi.mono hws)
  clear hWi d0
  refine rangeFunc_iter (by omega) (gf := g) (lb := lb) rfl hg hit
    (fun h1 h2 => h1.trans h2) (knB (by omega)) hb (fun _ => rfl)
    (fun pre V => J (aft pre p) V ∧ Kn w W V ∧ V.heap[W.heap.size]? = some (.cells #[.func (.yield l) #[] #[]] 66 (0, 0)))
    (fun c pre V => c = .ret ∧ ∃ L, L <+: aft xs p ∧ L ≠ [] ∧ Jx L V) ?hI ?hIx ⟨hji, Fr.ofBelow bi _, e0⟩ ?round ?done ?stop
  case hI =>
    refine OwnFrom.and (fun s A B row hs hg hr => ownFrom_mono hJ (by omega) (aft s p) A B row hs hg hr) (OwnFrom.and (own_kn (by omega)) (own_at (by omega) _))
  case hIx =>
    rintro c s A B row ⟨hc, L, h1, h2, h3⟩ hg hr
    exact ⟨hc, L, h1, h2, ownFrom_mono hJx (by omega) L A B row h3 hg hr⟩
  case stop =>
    rintro D c pre V hD hpre hne ⟨rfl, L, h1, h2, hjx⟩ hk
    gi_wp2
    refine ⟨by simp, .inl ⟨_, _, rfl, run_takeDeferred hk, ?_⟩⟩
    refine ⟨_, results_none rfl _ _ _, ⟨_, rfl⟩, .inr ⟨L, h1, h2, hJx.putObj _ hjx (by omega) hk rfl⟩⟩
  case done =>
    rintro D V hD ⟨hj, hB, _⟩ hk
    gi_wp2
    refine ⟨by simp, .inl ⟨_, _, rfl, run_takeDeferred hk, ?_⟩⟩
    refine ⟨_, results_none rfl _ _ _, ⟨_, rfl⟩, .inl ?_⟩
    exact hJ.putObj (.deferred none) hj (by omega) hk rfl
  case round =>
    rintro l' pre x V0 ⟨rest, hpr⟩ hsz0 hi0
    dsimp only [encp]
    have HI0 := Lib.hid hi0
    clear hi0
    gi_wp2
    refine ⟨(Keep.refl _ _ _).alloc _ hsz0, (Fr.refl _ _).alloc _, ⟨hJ.alloc _ HI0.out.1, HI0.out.2.1.alloc _, (Below.heap_alloc _ _ _ (by omega)).trans HI0.out.2.2⟩, ?_⟩
    rintro V hgr hl - hszV ⟨hj, hF, hy0⟩
    obtain ⟨QB, hQB⟩ : ∃ QB, QB = V0.heap.size := ⟨_, rfl⟩
    have gq : PosAt V QB x.1 x.2 := by
      rw [hQB]
      exact (hgr.block _ (by simp) (by intro e; injection e with e; omega)).trans (heap_alloc_new V0 _)
    rw [← hQB]
    have gp : PosAt V bp p.1 p.2 := ((Kn.below hW hF).block _ H1.out.lt).trans H1.out
    have p0 := gp.c0
    have p1 := gp.c1
    have q0 := gq.c0
    have q1 := gq.c1
    have hls := So.less_any p.1 p.2 x.1 x.2 V
    have HV := Lib.hid (And.intro hj (And.intro hF (And.intro hy0 (And.intro gp gq))))
    clear hgr hl hj hF hy0 gp gq hQB HI0
    cases hlp : lp p x
    · rw [show So.lt p.1 p.2 x.1 x.2 = false from hlp] at hls
      gi_wp2_with fail
      refine ⟨trivial, ?_⟩
      refine (CallsIn.inRound l' (callsIn_wide.2 hls)).mono ?_
      rintro e V2 ⟨rfl, hb2⟩
      have hz2 := hb2.size
      have g2 := grown_below hb2
      have hk2 : Keep Wi.heap.size (Wi.heap.size + 2 + m) V V2 := Keep.ofFr (Fr.ofBelow hb2 (fun _ => False)) hszV (fun k e => e.elim)
      have hn2 : Kn w V V2 := Fr.ofBelow hb2 _
      have hj2 : J (aft pre p) V2 := hJ _ _ _ none HV.out.1 g2 (fun _ e => by cases e)
      have hy2 := (hb2.block _ (Array.getElem?_eq_some_iff.1 HV.out.2.2.1).1).trans HV.out.2.2.1
      have HP := Lib.hid (And.intro hk2 (And.intro hn2 (And.intro hj2 hy2)))
      clear hls hk2 hn2 hj2 hy2 g2 p0 p1 q0 q1
      gi_wp2_with (with_reducible refine And.intro (fun _ hh => by cases hh) ?_)
      obtain ⟨hk2, hn2, hj2, hy2⟩ := HP.out
      refine ⟨hk2, hn2, ?_, HV.out.2.1.trans hn2, hy2⟩
      show J (aft (pre ++ [x]) p) V2
      rw [show aft (pre ++ [x]) p = aft pre p from flt_no (by exact hlp)]
      exact hj2
    · rw [show So.lt p.1 p.2 x.1 x.2 = true from hlp] at hls
      gi_wp2_with fail
      refine ⟨trivial, ?_⟩
      refine (CallsIn.inRound l' (callsIn_wide.2 hls)).mono ?_
      rintro e V2 ⟨rfl, hb2⟩
      have hz2 := hb2.size
      have g2 := grown_below hb2
      have hk2 : Keep Wi.heap.size (Wi.heap.size + 2 + m) V V2 := Keep.ofFr (Fr.ofBelow hb2 (fun _ => False)) hszV (fun k e => e.elim)
      have hn2 : Kn w V V2 := Fr.ofBelow hb2 _
      have hj2 : J (aft pre p) V2 := hJ _ _ _ none HV.out.1 g2 (fun _ e => by cases e)
      have hy2 := (hb2.block _ (Array.getElem?_eq_some_iff.1 HV.out.2.2.1).1).trans HV.out.2.2.1
      have hq2 := HV.out.2.2.2.2.below hb2 HV.out.2.2.2.2.lt
      obtain ⟨⟨r, hr⟩, hnx⟩ := flt_yes (pr := fun q => lp p q) hpr (by exact hlp)
      obtain ⟨fn, tmps, assign, body, hy, hRd⟩ := HY.out (aft pre p) x V2 ⟨r, hr⟩ (by omega) hj2
      have HRD := Lib.hid hRd
      have HN := Lib.hid hnx
      have HR := Lib.hid hr
      have HP := Lib.hid (And.intro hk2 (And.intro hn2 hy2))
      have q2 := hq2.c0
      have q3 := hq2.c1
      have y2 : V2.cell? ⟨W.heap.size, 0, none⟩ = some (.func (.yield l) #[] #[]) := (cell_of_row V2 _ 0 _ _ _ hy2).trans (by simp)
      dsimp only [encp] at hy
      clear hls hk2 hn2 hj2 hy2 g2 p0 p1 q0 q1 hRd hnx hr hq2
      gi_wp2
      refine (roundIn_in l' HRD.out).mono ?_
      rintro e V3 ⟨hkeep, hor⟩
      obtain ⟨bv, rfl, HOR⟩ : ∃ bv : Bool, e = .returned (.bool bv) ∧ Hid (if bv = true then J (aft pre p ++ [x]) V3 ∧ Kn w V2 V3 else Jx (aft pre p ++ [x]) V3) := by
        rcases hor with ⟨h1, h2, h3⟩ | ⟨h1, h2⟩
        · exact ⟨true, h1, ⟨h2, h3⟩⟩
        · exact ⟨false, h1, h2⟩
      have HKP := Lib.hid hkeep
      clear hkeep hor hy y2 q2 q3
      cases bv
      · gi_wp2
        have hjx : Jx (aft pre p ++ [x]) V3 := HOR.out
        refine ⟨HP.out.1.trans (HKP.out.mono (by omega) (by omega)), rfl, _, ?_, by simp, hjx⟩
        exact ⟨r, by have := HR.out; unfold aft at this ⊢; rw [this]; simp⟩
      · gi_wp2
        have hjn : J (aft pre p ++ [x]) V3 ∧ Kn w V2 V3 := HOR.out
        refine ⟨HP.out.1.trans (HKP.out.mono (by omega) (by omega)), HP.out.2.1.trans hjn.2, ?_, HV.out.2.1.trans (HP.out.2.1.trans hjn.2), (HKP.out.same _ (by omega) (by omega)).trans HP.out.2.2⟩
        show J (aft (pre ++ [x]) p) V3
        rw [show aft (pre ++ [x]) p = aft pre p ++ [x] from HN.out]
        exact hjn.1

theorem after_tells {m : Nat} {xs : List P2} (v : Value) (p : P2) (w : World) (h : Tells w v m xs) : Calls Try.prog 33 #[v, .agg #[.int .i64 p.1, .int .i64 p.2]] w fun e w' =>
    ∃ u, e = .returned u ∧ Tells w' u (m + 3) (aft xs p) ∧ Below w.heap.size w w' := by
  obtain ⟨g, lb, rfl, hen, hit⟩ := h
  have hb := two_below w (.cells #[.func (.func g) #[] lb] 29) (.cells #[.int .i64 p.1, .int .i64 p.2] 35)
  have HB := Lib.hid hb
  have HE := Lib.hid hen
  have HIT := Lib.hid hit
  clear hb hen hit
  go_enter Try.func33, Try.ntmps33
  go_wp2
  go_ret
  refine ⟨_, rfl, ⟨_, _, rfl, enters_of Try.func52 (by kernel_rfl) rfl, ?_⟩, HB.out⟩
  refine after_iter _ _ _ p HE.out (iter_kp (HIT.out.later HB.out) (fun A B hh => kn_of HB.out.size hh)) ?_ ?_
  · exact cell_one ((cell_of_row _ _ 0 _ _ _ (heap_alloc_new w _)).trans (by simp)) _
  · exact two_new w _ _

set_option maxHeartbeats 4000000 in
theorem from_iter {g : Nat} {lb : Array Value} {m : Nat} {xs : List P2} (w : World) (bl bp : Nat) (p : P2) (hg : ∀ args w', (callFunc g args).run Try.prog w' = .ok (.enter g args) w') (hit : Iter Try.prog g lb encp m (Kn w) xs w)
    (h0 : w.cell? ⟨bl, 0, none⟩ = some (.func (.func g) #[] lb)) (h1 : PosAt w bp p.1 p.2) :
    Iter Try.prog 56 #[.pointer (some ⟨bl, 0, none⟩), .pointer (some ⟨bp, 0, none⟩)] encp (m + 3) (Kn w) (atf xs p) w := fun l J Jx W hW hJ hJx hY hj0 => by
  have hws := hW.size
  have d0 := cell_one (Kn.cell hW (Fr.refl _ W) h0) (.cells #[.func (.yield l) #[] #[]] 66)
  have HY := Lib.hid hY
  have H1 := Lib.hid h1
  clear hY h1 h0
  refine callsIn_of_wp_marks Try.func56 rfl trivial ?_ rfl
  simp only [Try.ntmps56, List.size_toArray, List.length_cons, List.length_nil, Nat.reduceAdd, Nat.reduceSub, Array.replicate_succ, Array.replicate_zero, List.push_toArray, List.append_toArray, List.nil_append, List.cons_append]
  refine wpIn_mono (Q := noPanic _) ?_ (noPanic_out _)
  gi_wp2
  refine name_world ?_
  intro Wi hWi
  have bi : Below W.heap.size W Wi := by rw [hWi]; exact (Below.refl _ W).alloc (Nat.le_refl _) _
  have e0 : Wi.heap[W.heap.size]? = some (.cells #[.func (.yield l) #[] #[]] 66 (0, 0)) := by rw [hWi]; exact heap_alloc_new W _
  have hsi : Wi.heap.size = W.heap.size + 1 := by rw [hWi]; simp
  have hji : J [] Wi := by rw [hWi]; exact hJ.alloc _ hj0
  have hb : Below w.heap.size w Wi := hW.trans (bi.mono hws)
  clear hWi d0
  refine rangeFunc_iter (by omega) (gf := g) (lb := lb) rfl hg hit
    (fun h1 h2 => h1.trans h2) (knB (by omega)) hb (fun _ => rfl)
    (fun pre V => J (atf pre p) V ∧ Kn w W V ∧ V.heap[W.heap.size]? = some (.cells #[.func (.yield l) #[] #[]] 66 (0, 0)))
    (fun c pre V => c = .ret ∧ ∃ L, L <+: atf xs p ∧ L ≠ [] ∧ Jx L V) ?hI ?hIx ⟨hji, Fr.ofBelow bi _, e0⟩ ?round ?done ?stop
  case hI =>
    refine OwnFrom.and (fun s A B row hs hg hr => ownFrom_mono hJ (by omega) (atf s p) A B row hs hg hr) (OwnFrom.and (own_kn (by omega)) (own_at (by omega) _))
  case hIx =>
    rintro c s A B row ⟨hc, L, h1, h2, h3⟩ hg hr
    exact ⟨hc, L, h1, h2, ownFrom_mono hJx (by omega) L A B row h3 hg hr⟩
  case stop =>
    rintro D c pre V hD hpre hne ⟨rfl, L, h1, h2, hjx⟩ hk
    gi_wp2
    refine ⟨by simp, .inl ⟨_, _, rfl, run_takeDeferred hk, ?_⟩⟩
    refine ⟨_, results_none rfl _ _ _, ⟨_, rfl⟩, .inr ⟨L, h1, h2, hJx.putObj _ hjx (by omega) hk rfl⟩⟩
  case done =>
    rintro D V hD ⟨hj, hB, _⟩ hk
    gi_wp2
    refine ⟨by simp, .inl ⟨_, _, rfl, run_takeDeferred hk, ?_⟩⟩
    refine ⟨_, results_none rfl _ _ _, ⟨_, rfl⟩, .inl ?_⟩
    exact hJ.putObj (.deferred none) hj (by omega) hk rfl
  case round =>
    rintro l' pre x V0 ⟨rest, hpr⟩ hsz0 hi0
    dsimp only [encp]
    have HI0 := Lib.hid hi0
    clear hi0
    gi_wp2
    refine ⟨(Keep.refl _ _ _).alloc _ hsz0, (Fr.refl _ _).alloc _, ⟨hJ.alloc _ HI0.out.1, HI0.out.2.1.alloc _, (Below.heap_alloc _ _ _ (by omega)).trans HI0.out.2.2⟩, ?_⟩
    rintro V hgr hl - hszV ⟨hj, hF, hy0⟩
    obtain ⟨QB, hQB⟩ : ∃ QB, QB = V0.heap.size := ⟨_, rfl⟩
    have gq : PosAt V QB x.1 x.2 := by
      rw [hQB]
      exact (hgr.block _ (by simp) (by intro e; injection e with e; omega)).trans (heap_alloc_new V0 _)
    rw [← hQB]
    have gp : PosAt V bp p.1 p.2 := ((Kn.below hW hF).block _ H1.out.lt).trans H1.out
    have p0 := gp.c0
    have p1 := gp.c1
    have q0 := gq.c0
    have q1 := gq.c1
    have hls := So.less_any x.1 x.2 p.1 p.2 V
    have HV := Lib.hid (And.intro hj (And.intro hF (And.intro hy0 (And.intro gp gq))))
    clear hgr hl hj hF hy0 gp gq hQB HI0
    cases hlp : lp x p
    · rw [show So.lt x.1 x.2 p.1 p.2 = false from hlp] at hls
      gi_wp2_with fail
      refine ⟨trivial, ?_⟩
      refine (CallsIn.inRound l' (callsIn_wide.2 hls)).mono ?_
      rintro e V2 ⟨rfl, hb2⟩
      have hz2 := hb2.size
      have g2 := grown_below hb2
      have hk2 : Keep Wi.heap.size (Wi.heap.size + 2 + m) V V2 := Keep.ofFr (Fr.ofBelow hb2 (fun _ => False)) hszV (fun k e => e.elim)
      have hn2 : Kn w V V2 := Fr.ofBelow hb2 _
      have hj2 : J (atf pre p) V2 := hJ _ _ _ none HV.out.1 g2 (fun _ e => by cases e)
      have hy2 := (hb2.block _ (Array.getElem?_eq_some_iff.1 HV.out.2.2.1).1).trans HV.out.2.2.1
      have hq2 := HV.out.2.2.2.2.below hb2 HV.out.2.2.2.2.lt
      obtain ⟨⟨r, hr⟩, hnx⟩ := flt_yes (pr := fun q => !lp q p) hpr (by simp [hlp])
      obtain ⟨fn, tmps, assign, body, hy, hRd⟩ := HY.out (atf pre p) x V2 ⟨r, hr⟩ (by omega) hj2
      have HRD := Lib.hid hRd
      have HN := Lib.hid hnx
      have HR := Lib.hid hr
      have HP := Lib.hid (And.intro hk2 (And.intro hn2 hy2))
      have q2 := hq2.c0
      have q3 := hq2.c1
      have y2 : V2.cell? ⟨W.heap.size, 0, none⟩ = some (.func (.yield l) #[] #[]) := (cell_of_row V2 _ 0 _ _ _ hy2).trans (by simp)
      dsimp only [encp] at hy
      clear hls hk2 hn2 hj2 hy2 g2 p0 p1 q0 q1 hRd hnx hr hq2
      gi_wp2
      refine (roundIn_in l' HRD.out).mono ?_
      rintro e V3 ⟨hkeep, hor⟩
      obtain ⟨bv, rfl, HOR⟩ : ∃ bv : Bool, e = .returned (.bool bv) ∧ Hid (if bv = true then J (atf pre p ++ [x]) V3 ∧ Kn w V2 V3 else Jx (atf pre p ++ [x]) V3) := by
        rcases hor with ⟨h1, h2, h3⟩ | ⟨h1, h2⟩
        · exact ⟨true, h1, ⟨h2, h3⟩⟩
        · exact ⟨false, h1, h2⟩
      have HKP := Lib.hid hkeep
      clear hkeep hor hy y2 q2 q3
      cases bv
      · gi_wp2
        have hjx : Jx (atf pre p ++ [x]) V3 := HOR.out
        refine ⟨HP.out.1.trans (HKP.out.mono (by omega) (by omega)), rfl, _, ?_, by simp, hjx⟩
        exact ⟨r, by have := HR.out; unfold atf at this ⊢; rw [this]; simp⟩
      · gi_wp2
        have hjn : J (atf pre p ++ [x]) V3 ∧ Kn w V2 V3 := HOR.out
        refine ⟨HP.out.1.trans (HKP.out.mono (by omega) (by omega)), HP.out.2.1.trans hjn.2, ?_, HV.out.2.1.trans (HP.out.2.1.trans hjn.2), (HKP.out.same _ (by omega) (by omega)).trans HP.out.2.2⟩
        show J (atf (pre ++ [x]) p) V3
        rw [show atf (pre ++ [x]) p = atf pre p ++ [x] from HN.out]
        exact hjn.1
    · rw [show So.lt x.1 x.2 p.1 p.2 = true from hlp] at hls
      gi_wp2_with fail
      refine ⟨trivial, ?_⟩
      refine (CallsIn.inRound l' (callsIn_wide.2 hls)).mono ?_
      rintro e V2 ⟨rfl, hb2⟩
      have hz2 := hb2.size
      have g2 := grown_below hb2
      have hk2 : Keep Wi.heap.size (Wi.heap.size + 2 + m) V V2 := Keep.ofFr (Fr.ofBelow hb2 (fun _ => False)) hszV (fun k e => e.elim)
      have hn2 : Kn w V V2 := Fr.ofBelow hb2 _
      have hj2 : J (atf pre p) V2 := hJ _ _ _ none HV.out.1 g2 (fun _ e => by cases e)
      have hy2 := (hb2.block _ (Array.getElem?_eq_some_iff.1 HV.out.2.2.1).1).trans HV.out.2.2.1
      have HP := Lib.hid (And.intro hk2 (And.intro hn2 (And.intro hj2 hy2)))
      clear hls hk2 hn2 hj2 hy2 g2 p0 p1 q0 q1
      gi_wp2_with (with_reducible refine And.intro (fun _ hh => by cases hh) ?_)
      obtain ⟨hk2, hn2, hj2, hy2⟩ := HP.out
      refine ⟨hk2, hn2, ?_, HV.out.2.1.trans hn2, hy2⟩
      show J (atf (pre ++ [x]) p) V2
      rw [show atf (pre ++ [x]) p = atf pre p from flt_no (by simp [hlp])]
      exact hj2

theorem from_tells {m : Nat} {xs : List P2} (v : Value) (p : P2) (w : World) (h : Tells w v m xs) : Calls Try.prog 46 #[v, .agg #[.int .i64 p.1, .int .i64 p.2]] w fun e w' =>
    ∃ u, e = .returned u ∧ Tells w' u (m + 3) (atf xs p) ∧ Below w.heap.size w w' := by
  obtain ⟨g, lb, rfl, hen, hit⟩ := h
  have hb := two_below w (.cells #[.func (.func g) #[] lb] 29) (.cells #[.int .i64 p.1, .int .i64 p.2] 35)
  have HB := Lib.hid hb
  have HE := Lib.hid hen
  have HIT := Lib.hid hit
  clear hb hen hit
  go_enter Try.func46, Try.ntmps46
  go_wp2
  go_ret
  refine ⟨_, rfl, ⟨_, _, rfl, enters_of Try.func56 (by kernel_rfl) rfl, ?_⟩, HB.out⟩
  refine from_iter _ _ _ p HE.out (iter_kp (HIT.out.later HB.out) (fun A B hh => kn_of HB.out.size hh)) ?_ ?_
  · exact cell_one ((cell_of_row _ _ 0 _ _ _ (heap_alloc_new w _)).trans (by simp)) _
  · exact two_new w _ _

end Go.Proofs.Ytdgckgfbdplnpaa.Wd
