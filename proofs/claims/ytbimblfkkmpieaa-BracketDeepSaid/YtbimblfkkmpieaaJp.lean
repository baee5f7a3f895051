/-
  Package pair: the pairs of brackets of a kind, one by one.
-/
import Derived.Test.YtbimblfkkmpieaaJc
import Derived.Test.YtbimblfkkmpieaaJi
import Derived.Test.YtbimblfkkmpieaaZp
set_option linter.unusedVariables false
set_option linter.unusedSimpArgs false
set_option maxRecDepth 100000
namespace Go.Proofs.Ytbimblfkkmpieaa.Pr
open Go Go.RowKit Go.Proofs.Ytbimblfkkmpieaa.Vk Go.Proofs.Ytbimblfkkmpieaa.Str Go.Proofs.Ytbimblfkkmpieaa.Ln Go.Proofs.Ytbimblfkkmpieaa.Cl Go.Proofs.Ytbimblfkkmpieaa.Mv Go.Proofs.Ytbimblfkkmpieaa.Wd Go.Shelf
attribute [local go_sem] Oper.semAt_some

def encpp (x : PP) : Array Value := #[.agg #[.int .i64 x.1.1, .int .i64 x.1.2], .agg #[.int .i64 x.2.1, .int .i64 x.2.2]]
/-- What stands between the rounds: the brackets' boxes, the yield's, the places that wait. -/
structure Wt (Y M D bo bs l o s : Nat) (st : List P2) (V : World) : Prop where
  y : RowAt V Y #[.func (.yield l) #[] #[]] 40
  op : RowAt V bo #[.int .u8 o] 5
  sh : RowAt V bs #[.int .u8 s] 5
  got : GotP M D st V
section
variable {Y M D bo bs l o s : Nat} {st : List P2} {V V' : World}
theorem Wt.lt (h : Wt Y M D bo bs l o s st V) : Y < V.heap.size ∧ M < V.heap.size ∧ bo < V.heap.size ∧ bs < V.heap.size := ⟨h.y.lt, h.got.lt, h.op.lt, h.sh.lt⟩
theorem Wt.below (h : Wt Y M D bo bs l o s st V) (hb : Below V.heap.size V V') : Wt Y M D bo bs l o s st V' :=
  ⟨h.y.below hb h.y.lt, h.op.below hb h.op.lt, h.sh.below hb h.sh.lt, h.got.below hb⟩
theorem Wt.grown {B : Nat} {row : Option Nat} (h : Wt Y M D bo bs l o s st V) (h1 : Y < B) (h2 : M < B) (h3 : bo < B) (h4 : bs < B) (hg : V.grownBy V' row) (hr : ∀ r, row = some r → B ≤ r ∧ ∃ o : Obj, V.heap[r]? = some o ∧ o.isCells = false) : Wt Y M D bo bs l o s st V' := by
  have hk : ∀ k, k < B → k < V.heap.size → V'.heap[k]? = V.heap[k]? := fun k hk hkA => hg.block k hkA (fun e => by have := (hr _ e.symm).1; omega)
  exact ⟨(hk _ h1 h.y.lt).trans h.y, (hk _ h3 h.op.lt).trans h.op, (hk _ h4 h.sh.lt).trans h.sh, h.got.grown (B := B) h2 hg hr⟩
/-- Another row in the variable. -/
theorem Wt.put {st' : List P2} {x : Value} (h : Wt Y M D bo bs l o s st V) (h1 : Y ≠ M) (h3 : bo ≠ M) (h4 : bs ≠ M) {b : Option Addr} {cc : Nat} (hx : x = .slice b st'.length cc) (hw : V.ownsRow D EP 2 (.slice b st'.length cc) st'.length (flat st')) (hD : M < D) : Wt Y M D bo bs l o s st' (V.setCell ⟨M, 0, none⟩ x) := by
  obtain ⟨b0, c0, g1, g2⟩ := h.got
  refine ⟨(Below.heap_setCell _ _ _ _ (by simpa using h1)).trans h.y, (Below.heap_setCell _ _ _ _ (by simpa using h3)).trans h.op, (Below.heap_setCell _ _ _ _ (by simpa using h4)).trans h.sh, b, cc, ?_, ?_⟩
  · rw [hx]
    exact (heap_setCell_same V M 0 _ _ _ g1).trans (by simp)
  · exact ownsRow_fr hw ((Fr.refl (fun k => k = M) V).setCell (p := ⟨M, 0, none⟩) (fun _ => rfl) _) (fun i hi e => by have := (hw.lt i hi).1; omega)
/-- Through a round of the caller's. -/
theorem Wt.kc {S : Nat → Prop} (h : Wt Y M D bo bs l o s st V) (hk : Kc S V V') (h1 : ¬ S Y) (h2 : ¬ S M) (h3 : ¬ S bo) (h4 : ¬ S bs) (h5 : ∀ k, S k → k < D) : Wt Y M D bo bs l o s st V' := by
  obtain ⟨b0, c0, g1, g2⟩ := h.got
  exact ⟨hk.row _ _ _ _ h1 h.y, hk.row _ _ _ _ h3 h.op, hk.row _ _ _ _ h4 h.sh, b0, c0, hk.row _ _ _ _ h2 g1, ownsRow_kc g2 hk (fun k e hh => by have := (g2.lt k e).1; have := h5 k hh; omega)⟩
end
theorem rev_snoc {st : List P2} {q : P2} : (q :: st).reverse = st.reverse ++ [q] := by simp

set_option maxHeartbeats 16000000 in
theorem pairs_iter {a : Option Addr} {n c : Nat} {ls : List ByteArray} (w : World) (b0 bo bs o s : Nat) (h : Ss w a n c ls) (hs : ∀ s ∈ ls, s.size ≤ 140737488355328) (hn6 : n ≤ 1000000) (htz : tz ls ≤ 900000) (h0n : 0 < n) (hne : o ≠ s)
    (h0 : w.cell? ⟨b0, 0, none⟩ = some (.slice a n c)) (h1 : RowAt w bo #[.int .u8 o] 5) (h2 : RowAt w bs #[.int .u8 s] 5) (S : Nat → Prop) (hSw : ∀ k, S k → k < w.heap.size) (hSo : ¬ S bo) (hSs : ¬ S bs) :
    Iter2 Try.prog 37 #[.pointer (some ⟨b0, 0, none⟩), .pointer (some ⟨bo, 0, none⟩), .pointer (some ⟨bs, 0, none⟩)] encpp 12 (Kc S) (prs o s [] (Cs ls)) w := fun l J Jx W hW hJ hJx hY hj0 => by
  have hws := hW.size
  have hlen := h.length
  obtain ⟨i0, hi0, hz0, hz1', hz2'⟩ := info_parts infoP
  have hbol := h1.lt
  have hbsl := h2.lt
  obtain ⟨X, hX⟩ : ∃ X, X = (W.alloc (.cells #[.func (.yield l) #[] #[]] 40)).alloc (.cells #[.slice none 0 0] 29) := ⟨_, rfl⟩
  have hbX : Below W.heap.size W X := by rw [hX]; exact two_below _ _ _
  have hsX : X.heap.size = W.heap.size + 2 := by rw [hX]; simp
  have e0 : X.heap[W.heap.size]? = some (.cells #[.func (.yield l) #[] #[]] 40 (0, 0)) := by rw [hX]; exact (Below.heap_alloc _ _ _ (by simp)).trans (heap_alloc_new W _)
  have e1 : X.heap[W.heap.size + 1]? = some (.cells #[.slice none 0 0] 29 (0, 0)) := by rw [hX]; exact two_new W _ _
  have hwX := hW.trans (hbX.mono hws)
  have c0 := cell_later hwX h0
  have hcn := So.cells_two a n c ls X (SrcV.below h hwX) (by omega) h0n
  rw [hX] at c0
  have HX := Lib.hid hX
  have HY := Lib.hid hY
  have HS := Lib.hid (And.intro h (And.intro h1 h2))
  clear hY h h1 h2 h0 hX
  refine callsIn_of_wp_marks Try.func37 rfl trivial ?_ rfl
  simp only [Try.ntmps37, List.size_toArray, List.length_cons, List.length_nil, Nat.reduceAdd, Nat.reduceSub, Array.replicate_succ, Array.replicate_zero, List.push_toArray, List.append_toArray, List.nil_append, List.cons_append]
  refine wpIn_mono (Q := noPanic _) ?_ (noPanic_out _)
  gi_wp2_with fail
  refine ⟨trivial, ?_⟩
  rw [← HX.out]
  refine (callsIn_wide.2 hcn).mono ?_
  rintro e Wi ⟨oc, rfl, g3, ⟨cur, g2⟩, hss, hbi, hsi⟩
  rw [hsX] at g3 g2 hss hsi ⊢
  have f0 := (hbi.block _ (by omega)).trans e0
  have f1 := (hbi.block _ (by omega)).trans e1
  have hwi := hwX.trans (hbi.mono hwX.size)
  have hWi : Below W.heap.size W Wi := hbX.trans (hbi.mono hbX.size)
  have hji : J [] Wi := hJ.keep _ _ _ hj0 hWi
  have hcit := So.cells_iter Wi (W.heap.size + 2 + 1) hss hs ((cell_of_row Wi _ 0 _ _ _ g3).trans (by simp)) (fun k => k < Wi.heap.size ∧ k ≠ W.heap.size + 2 ∧ k ≠ W.heap.size + 3) (by omega) (fun _ b' o' e hh => by injection e with e; injection e with e; omega) (fun k hk => hk.1)
  have HW : Hid (Wt W.heap.size (W.heap.size + 1) (Wi.heap.size + 8) bo bs l o s [] Wi) := ⟨f0, (HS.out.2.1.below hwi hbol), (HS.out.2.2.below hwi hbsl), none, 0, f1, World.ownsRow_nil _ _ _ _⟩
  have hCl := Cs_length ls
  have hce : So.cells (So.enr ls 0 n) = Cs ls := by rw [← hlen]; rfl
  rw [hce] at hcit
  have hCz : (Cs ls).length ≤ 900000 := by omega
  clear c0 hcn e0 e1 hsX g3 g2 hss f0 f1 hbX hbi hwX HX hCl hce
  gi_wp2_with fail
  have hsz0 : Wi.heap.size = W.heap.size + 4 := by omega
  refine rangeFunc_iter (by omega) (gf := 41) (lb := #[.pointer (some ⟨W.heap.size + 2 + 1, 0, none⟩)]) rfl (enters_of Try.func41 (by kernel_rfl) rfl) hcit
    (fun h1 h2 => h1.trans h2) (So.frK (Nat.le_refl _)) (Below.refl _ _) (fun _ => rfl)
    (fun pre V => J (prs o s [] pre) V ∧ Wt W.heap.size (W.heap.size + 1) (Wi.heap.size + 8) bo bs l o s (stk o s [] pre).reverse V)
    (fun c pre V => c = .ret ∧ ∃ L, L <+: prs o s [] (Cs ls) ∧ L ≠ [] ∧ Jx L V) ?hI ?hIx ⟨hji, HW.out⟩ ?round ?done ?stop
  case hI =>
    rintro s' A' B row ⟨h1, h2⟩ hg hr
    exact ⟨hJ.from _ A' B row h1 hg (fun r e => ⟨by have := (hr r e).1; omega, (hr r e).2⟩), h2.grown (B := Wi.heap.size) (by omega) (by omega) (by omega) (by omega) hg hr⟩
  case hIx =>
    rintro c s A B row ⟨hc, L, h1, h2, h3⟩ hg hr
    exact ⟨hc, L, h1, h2, hJx.from _ A B row h3 hg (fun r e => ⟨by have := (hr r e).1; omega, (hr r e).2⟩)⟩
  case stop =>
    rintro D c pre V hD hpre hne ⟨rfl, L, h1, h2, hjx⟩ hk
    gi_wp2
    refine ⟨by simp, .inl ⟨_, _, rfl, run_takeDeferred hk, ?_⟩⟩
    refine ⟨_, results_none rfl _ _ _, ⟨_, rfl⟩, .inr ⟨L, h1, h2, hJx.from.putObj _ hjx (by omega) hk rfl⟩⟩
  case done =>
    rintro D V hD ⟨hj, _⟩ hk
    gi_wp2
    refine ⟨by simp, .inl ⟨_, _, rfl, run_takeDeferred hk, ?_⟩⟩
    refine ⟨_, results_none rfl _ _ _, ⟨_, rfl⟩, .inl ?_⟩
    exact hJ.from.putObj (.deferred none) hj (by omega) hk rfl
  case round =>
    rintro l' pre ⟨⟨pl, pc⟩, pb⟩ V0 ⟨rest, hpr⟩ hsz0' hi0
    dsimp only [So.encc]
    have HI0 := Lib.hid hi0
    have hpl : pre.length ≤ 900000 := by have := congrArg List.length hpr; simp at this; omega
    clear hi0
    gi_wp2
    refine ⟨(Keep.refl _ _ _).alloc _ (by omega), (Fr.refl _ _).alloc _, ⟨hJ.keep _ _ _ HI0.out.1 ((Below.refl _ V0).alloc (by omega) _), HI0.out.2.below ((Below.refl _ V0).alloc (Nat.le_refl _) _)⟩, ?_⟩
    rintro V hgr hl - hszV ⟨hj, hWt⟩
    obtain ⟨QB, hQB⟩ : ∃ QB, QB = V0.heap.size := ⟨_, rfl⟩
    have gq : PosAt V QB pl pc := by
      rw [hQB]
      exact (hgr.block _ (by simp) (by intro e; injection e with e; omega)).trans (heap_alloc_new V0 _)
    rw [← hQB]
    have hQM : Wi.heap.size + 8 ≤ QB := by omega
    have HV := Lib.hid (And.intro hj (And.intro hWt gq))
    have HPR := Lib.hid hpr
    have p2 : V.cell? ⟨bo, 0, none⟩ = some (.int .u8 o) := hWt.op.at (by simp)
    have p3 : V.cell? ⟨bs, 0, none⟩ = some (.int .u8 s) := hWt.sh.at (by simp)
    obtain ⟨y, hy⟩ : ∃ y, y = pb.toNat := ⟨_, rfl⟩
    rw [← hy]
    have hyb : pb.toNat = y := hy.symm
    have HYB := Lib.hid hyb
    clear hgr hl hj hWt gq hQB HI0 hpr hyb hy
    by_cases ho : y = o
    · have e1 : ((y : Int) == (o : Int)) = true := by rw [beq_iff_eq]; omega
      obtain ⟨b, cc, g1, hrow⟩ := HV.out.2.1.got
      obtain ⟨st, hst⟩ : ∃ st, st = (stk o s [] pre).reverse := ⟨_, rfl⟩
      rw [← hst] at g1 hrow
      have hstl : st.length ≤ 900000 := by have := stk_length (o := o) (s := s) pre []; rw [hst]; simp at this ⊢; omega
      have q0 := HV.out.2.2.c0
      have q1 := HV.out.2.2.c1
      have y2 : V.cell? ⟨W.heap.size + 1, 0, none⟩ = some (.slice b st.length cc) := (cell_of_row V _ 0 _ _ _ g1).trans (by simp)
      have hrow3 := ownsRow_fr hrow ((Fr.refl (fun _ => False) V).alloc (.cells #[.int .i64 pl, .int .i64 pc] EP)) (by simp)
      have hob : ∀ g, (Value.slice b st.length cc).ownBlock = some g → Wi.heap.size + 8 ≤ g := fun g hg => (hrow.lt g hg).1
      have hgl : W.heap.size + 1 < V.heap.size := (Array.getElem?_eq_some_iff.1 g1).1
      have hst4 : ∀ V4, (V.alloc (.cells #[.int .i64 pl, .int .i64 pc] EP)).grownBy V4 (Value.slice b st.length cc).ownBlock → V4.heap[W.heap.size + 1]? = some (.cells #[.slice b st.length cc] 29 (0, 0)) := fun V4 hg4 =>
        (hg4.block (W.heap.size + 1) (by simp; omega) (by intro e; have := hob _ e.symm; omega)).trans ((Below.heap_alloc _ _ _ hgl).trans g1)
      have HO3 := Lib.hid hob
      have HST := Lib.hid hst4
      have HR3 := Lib.hid hrow3
      have HS3 := Lib.hid (SrcV.pos V pl pc)
      have HSS := Lib.hid hst
      have HYO := Lib.hid ho
      have hszz : Wi.heap.size + 8 ≤ V.heap.size + 1 := by omega
      obtain ⟨N, hN⟩ : ∃ N, N = st.length := ⟨_, rfl⟩
      clear g1 hrow hrow3 hob hst4 hst ho
      gi_wp2_with (gi_at_builtin; go_must (refine wpListIn_append_srcv _ rfl _ _ 29 rfl (Wi.heap.size + 8) EP i0 (.agg #[.int .i64 0, .int .i64 0]) 2 16 underP hi0 hz0 hz1' hz2' rfl (by decide) (.slice b st.length cc) st.length (flat st) rfl HR3.out (.slice (some ⟨V.heap.size, 0, none⟩) 1 1) 1 [.int .i64 pl, .int .i64 pc] rfl HS3.out (by simp only [maxLen]; omega) (by omega) (by simp; omega) ?_); intro ob oc V4 hown hg hnr; have y4 : V4.cell? ⟨W.heap.size + 1, 0, none⟩ = some (.slice b st.length cc) := (cell_of_row V4 _ 0 _ _ _ (HST.out V4 hg)).trans (by simp); have z4 : V4.frozen? ⟨W.heap.size + 1, 0, none⟩ = false := frozen_of_row V4 _ 0 _ _ (HST.out V4 hg); have HO := Lib.hid (And.intro hown hg); clear hown hg hnr)
      obtain ⟨hown, hg⟩ := HO.out
      obtain ⟨hj, hWt, gq⟩ := HV.out
      have f4 : Fr (fun k => (Value.slice b st.length cc).ownBlock = some k) V V4 := Fr.grown ((Fr.refl _ V).alloc _) hg (fun k e _ => e)
      have f7 := (f4.mono (S' := fun k => k = W.heap.size + 1 ∨ Wi.heap.size + 8 ≤ k) (fun k _ e => .inr (HO3.out k e))).setCell (p := ⟨W.heap.size + 1, 0, none⟩) (fun _ => .inl rfl) (.slice ob (st.length + 1) oc)
      have hsn := snoc_open (o := o) (s := s) (pre := pre) (p := (pl, pc)) (HYB.out.trans HYO.out)
      have hW4 : Wt W.heap.size (W.heap.size + 1) (Wi.heap.size + 8) bo bs l o s (stk o s [] (pre ++ [((pl, pc), pb)])).reverse (V4.setCell ⟨W.heap.size + 1, 0, none⟩ (.slice ob (st.length + 1) oc)) := by
        rw [hsn.2, rev_snoc, ← HSS.out]
        have hb4 : ∀ k, k < Wi.heap.size + 8 → k < V.heap.size → V4.heap[k]? = V.heap[k]? := fun k h1 h2 => f4.block k h2 (fun e => by have := HO3.out k e; omega)
        have hm : Wt W.heap.size (W.heap.size + 1) (Wi.heap.size + 8) bo bs l o s st V4 → _ := fun h => h.put (x := .slice ob (st.length + 1) oc) (st' := st ++ [(pl, pc)]) (by omega) (by omega) (by omega) (b := ob) (cc := oc) (by simp) (by rw [List.length_append, flat_append, flat_one]; exact hown) (by omega)
        obtain ⟨b9, c9, h9, _⟩ := hWt.got
        refine ⟨?_, ?_, ?_, ob, oc, ?_, ?_⟩
        · exact (Below.heap_setCell _ _ _ _ (by simp)).trans ((hb4 _ (by omega) hWt.y.lt).trans hWt.y)
        · exact (Below.heap_setCell _ _ _ _ (by simp; omega)).trans ((hb4 _ (by omega) hWt.op.lt).trans hWt.op)
        · exact (Below.heap_setCell _ _ _ _ (by simp; omega)).trans ((hb4 _ (by omega) hWt.sh.lt).trans hWt.sh)
        · rw [List.length_append]
          exact (heap_setCell_same V4 _ 0 _ _ _ (HST.out V4 hg)).trans (by simp)
        · rw [List.length_append, flat_append, flat_one]
          exact ownsRow_fr hown ((Fr.refl (fun k => k = W.heap.size + 1) V4).setCell (p := ⟨W.heap.size + 1, 0, none⟩) (fun _ => rfl) _) (fun i hi e => by have := (hown.lt i hi).1; omega)
      refine ⟨Keep.ofFr f7 (by omega) (fun i e => by omega), f7.mono (fun i _ e => by
        rcases e with e | e
        · exact .inl (by omega)
        · exact .inr (by omega)), ?_, hW4⟩
      rw [hsn.1]
      exact hJ.keep _ _ _ hj (f7.below (B := W.heap.size) (by omega) (fun k e => by omega))
    · have e1 : ((y : Int) == (o : Int)) = false := by rw [beq_eq_false_iff_ne]; omega
      by_cases hs2 : y = s
      rotate_left
      · have e2 : ((y : Int) == (s : Int)) = false := by rw [beq_eq_false_iff_ne]; omega
        have hsn := snoc_other (o := o) (s := s) (pre := pre) (p := (pl, pc)) (b := pb) (fun hh => ho (HYB.out.symm.trans hh)) (fun hh => hs2 (HYB.out.symm.trans hh))
        have HSN := Lib.hid hsn
        clear hsn ho hs2
        gi_wp2
        refine ⟨Keep.refl _ _ _, Fr.refl _ _, ?_⟩
        show J (prs o s [] (pre ++ [((pl, pc), pb)])) V ∧ Wt W.heap.size (W.heap.size + 1) (Wi.heap.size + 8) bo bs l o s (stk o s [] (pre ++ [((pl, pc), pb)])).reverse V
        rw [HSN.out.1, HSN.out.2]
        exact ⟨HV.out.1, HV.out.2.1⟩
      · have e2 : ((y : Int) == (s : Int)) = true := by rw [beq_iff_eq]; omega
        obtain ⟨b, cc, g1, hrow⟩ := HV.out.2.1.got
        cases hstk : stk o s [] pre with
        | nil =>
          rw [hstk] at g1
          have y2 : V.cell? ⟨W.heap.size + 1, 0, none⟩ = some (.slice b 0 cc) := (cell_of_row V _ 0 _ _ _ g1).trans (by simp)
          have hsn := snoc_none (o := o) (s := s) (pre := pre) (p := (pl, pc)) (b := pb) (fun hh => ho (HYB.out.symm.trans hh)) (HYB.out.trans hs2) hstk
          have HSN := Lib.hid (And.intro hsn hstk)
          have hwm : IntKind.i64.wrap (0 - 1) = -1 := by rw [IntKind.wrap_i64]; omega
          clear hsn hstk g1 hrow ho hs2
          gi_wp2
          refine ⟨Keep.refl _ _ _, Fr.refl _ _, ?_⟩
          have := HV.out.2.1
          rw [HSN.out.2] at this
          show J (prs o s [] (pre ++ [((pl, pc), pb)])) V ∧ Wt W.heap.size (W.heap.size + 1) (Wi.heap.size + 8) bo bs l o s (stk o s [] (pre ++ [((pl, pc), pb)])).reverse V
          rw [HSN.out.1.1, HSN.out.1.2]
          exact ⟨HV.out.1, this⟩
        | cons q st =>
          rw [hstk] at g1 hrow
          have hsn := snoc_pair (o := o) (s := s) (pre := pre) (p := (pl, pc)) (b := pb) (fun hh => ho (HYB.out.symm.trans hh)) (HYB.out.trans hs2) hstk
          obtain ⟨r, hr⟩ := all_pair (o := o) (s := s) HPR.out (fun hh => ho (HYB.out.symm.trans hh)) (HYB.out.trans hs2) hstk
          obtain ⟨L, hL⟩ : ∃ L, L = st.reverse := ⟨_, rfl⟩
          obtain ⟨K, hK⟩ : ∃ K, K = L.length := ⟨_, rfl⟩
          have hKst : K = st.length := by rw [hK, hL, List.length_reverse]
          have hstl : st.length + 1 ≤ 900000 := by have := stk_length (o := o) (s := s) pre []; rw [hstk] at this; simp at this; omega
          rw [rev_snoc, ← hL] at g1 hrow
          obtain ⟨N, hN⟩ : ∃ N, N = (L ++ [q]).length := ⟨_, rfl⟩
          have hNK : N = K + 1 := by rw [hN, List.length_append, hK]; rfl
          rw [← hN] at g1 hrow
          obtain ⟨g, rfl⟩ : ∃ g, b = some ⟨g, 0, none⟩ := by
            rcases hrow.2 with ⟨hv, hh⟩ | ⟨g, cap, cur, hv, _⟩
            · omega
            · injection hv with e1; exact ⟨g, e1⟩
          have hgD : Wi.heap.size + 8 ≤ g := (hrow.lt g rfl).1
          have hps : Ps V (some ⟨g, 0, none⟩) N cc (L ++ [q]) := Ps.ofOwn hrow
          obtain ⟨b2, o2, hbo, cx, cy, hnc⟩ := hps.read K (by rw [← hN]; omega)
          obtain ⟨rfl, rfl⟩ : g = b2 ∧ 0 = o2 := by
            injection hbo with hbo
            injection hbo with h1 h2
            exact ⟨h1, h2⟩
          have hqL : (L ++ [q])[K]'(by rw [← hN]; omega) = q := by simp [hK]
          rw [hqL, Nat.zero_add] at cx cy
          have htk := ownsRow_take hrow (m := K) (by omega) (by omega)
          rw [show (flat (L ++ [q])).take (K * 2) = flat L by rw [flat_append]; exact List.take_left' (by rw [flat_length, hK])] at htk
          have y2 : V.cell? ⟨W.heap.size + 1, 0, none⟩ = some (.slice (some ⟨g, 0, none⟩) N cc) := (cell_of_row V _ 0 _ _ _ g1).trans (by simp)
          have hwm : IntKind.i64.wrap ((N : Int) - 1) = (K : Int) := by rw [IntKind.wrap_i64]; omega
          have d0 : decide ((K : Int) < 0) = false := decide_eq_false (by omega)
          have hKN : K < N := by omega
          have hMV : W.heap.size + 1 < V.heap.size := (Array.getElem?_eq_some_iff.1 g1).1
          have hQV : QB < V.heap.size := HV.out.2.2.lt
          -- the new variable, the row cut short
          obtain ⟨Va, hVa⟩ : ∃ Va, Va = V.alloc (.cells #[.int .i64 q.1, .int .i64 q.2] 24) := ⟨_, rfl⟩
          have hba : Below V.heap.size V Va := by rw [hVa]; exact (Below.refl _ V).alloc (Nat.le_refl _) _
          have ga := (hba.block _ hMV).trans g1
          have y3 : Va.cell? ⟨W.heap.size + 1, 0, none⟩ = some (.slice (some ⟨g, 0, none⟩) N cc) := (cell_of_row Va _ 0 _ _ _ ga).trans (by simp)
          have z3 := frozen_of_row Va (W.heap.size + 1) 0 _ _ ga
          obtain ⟨Vs, hVs⟩ : ∃ Vs, Vs = V.setCell ⟨W.heap.size + 1, 0, none⟩ (.slice (some ⟨g, 0, none⟩) K cc) := ⟨_, rfl⟩
          have hWs : Wt W.heap.size (W.heap.size + 1) (Wi.heap.size + 8) bo bs l o s L Vs := by
            rw [hVs]
            exact HV.out.2.1.put (by omega) (by omega) (by omega) (by rw [hK]) (by rw [← hK]; exact htk) (by omega)
          have hss : Vs.heap.size = V.heap.size := by rw [hVs]; simp
          have fs : Fr (fun k => k = W.heap.size + 1) V Vs := by rw [hVs]; exact (Fr.refl (fun k => k = W.heap.size + 1) V).setCell (p := ⟨W.heap.size + 1, 0, none⟩) (fun _ => rfl) _
          obtain ⟨V3, hV3⟩ : ∃ V3, V3 = Vs.alloc (.cells #[.int .i64 q.1, .int .i64 q.2] 24) := ⟨_, rfl⟩
          have hb3 : Below Vs.heap.size Vs V3 := by rw [hV3]; exact (Below.refl _ Vs).alloc (Nat.le_refl _) _
          have f3 : Fr (fun k => k = W.heap.size + 1) V V3 := fs.trans (Fr.ofBelow hb3 _)
          have hW3 := hWs.below hb3
          have hn3 : PosAt V3 V.heap.size q.1 q.2 := by rw [hV3, ← hss]; exact PosAt.new Vs _ _
          have hq3 : PosAt V3 QB pl pc := (f3.block _ hQV (by omega)).trans HV.out.2.2
          have hj3 : J (prs o s [] pre) V3 := hJ.keep _ _ _ HV.out.1 (f3.below (B := W.heap.size) (by omega) (fun k e => by omega))
          have hs3 : V3.heap.size = V.heap.size + 1 := by rw [hV3]; simp [hss]
          obtain ⟨fn, tmps, assign, body, hy, hRd⟩ := HY.out (prs o s [] pre) (q, (pl, pc)) V3 ⟨r, hr⟩ (by omega) hj3
          have k0 := hn3.c0
          have k1 := hn3.c1
          have k2 := hq3.c0
          have k3 := hq3.c1
          have k4 : V3.cell? ⟨W.heap.size, 0, none⟩ = some (.func (.yield l) #[] #[]) := hW3.y.at (by simp)
          have HRD := Lib.hid hRd
          have H3 := Lib.hid (And.intro f3 (And.intro hW3 (And.intro hsn (And.intro hr hs3))))
          have HL := Lib.hid hL
          rw [hV3, hVs] at hy k0 k1 k2 k3 k4
          rw [hVa] at y3 z3
          have HV3 := Lib.hid (And.intro hVs hV3)
          dsimp only [encpp] at hy
          clear hRd f3 hW3 hsn hr hs3 hj3 hn3 hq3 hWs hss fs hb3 ga hba htk hps hbo hqL g1 hrow hstk hKst hstl hL hK hNK hN hVa hVs hV3 ho hs2
          gi_wp2
          rw [← HV3.out.1, ← HV3.out.2]
          refine (roundIn_in l' HRD.out).mono ?_
          rintro e V4 ⟨hkeep, hor⟩
          obtain ⟨bv, rfl, HOR⟩ : ∃ bv : Bool, e = .returned (.bool bv) ∧ Hid (if bv = true then J (prs o s [] pre ++ [(q, (pl, pc))]) V4 ∧ Kc S V3 V4 else Jx (prs o s [] pre ++ [(q, (pl, pc))]) V4) := by
            rcases hor with ⟨h1, h2, h3⟩ | ⟨h1, h2⟩
            · exact ⟨true, h1, ⟨h2, h3⟩⟩
            · exact ⟨false, h1, h2⟩
          have HKP := Lib.hid hkeep
          clear hkeep hor hy k0 k1 k2 k3 k4 y3 z3 y2
          have key : Hid (Keep Wi.heap.size (Wi.heap.size + 8) V V4) := (Keep.ofFr H3.out.1 (by omega) (fun k e => .inl (by omega))).trans (HKP.out.mono (by omega) (by omega))
          cases bv
          · gi_wp2
            have hjx : Jx (prs o s [] pre ++ [(q, (pl, pc))]) V4 := HOR.out
            refine ⟨key.out, rfl, _, ?_, by simp, hjx⟩
            obtain ⟨_, _, _, hr, _⟩ := H3.out
            exact ⟨r, by rw [hr]; simp⟩
          · gi_wp2
            have hjn : J (prs o s [] pre ++ [(q, (pl, pc))]) V4 ∧ Kc S V3 V4 := HOR.out
            obtain ⟨f3, hW3, hsn, hr, hs3⟩ := H3.out
            refine ⟨key.out, ?_, ?_⟩
            · have hk := hjn.2
              have f4 : Fr (fun k => (k < Wi.heap.size ∧ k ≠ W.heap.size + 2 ∧ k ≠ W.heap.size + 3) ∨ Wi.heap.size ≤ k) V3 V4 :=
                ⟨hk.os, hk.tape, hk.output, hk.size, fun k hkl hn => HKP.out.same k (by
                  rcases Nat.lt_or_ge k W.heap.size with h | h
                  · exact (hn (.inl ⟨by omega, by omega, by omega⟩)).elim
                  · exact h) (by
                  rcases Nat.lt_or_ge k Wi.heap.size with h | h
                  · omega
                  · exact (hn (.inr h)).elim)⟩
              exact (f3.mono (fun k _ e => .inl ⟨by omega, by omega, by omega⟩)).trans f4
            · show J (prs o s [] (pre ++ [((pl, pc), pb)])) V4 ∧ Wt W.heap.size (W.heap.size + 1) (Wi.heap.size + 8) bo bs l o s (stk o s [] (pre ++ [((pl, pc), pb)])).reverse V4
              rw [hsn.1, hsn.2, ← HL.out]
              exact ⟨hjn.1, hW3.kc hjn.2 (fun e => by have := hSw _ e; omega) (fun e => by have := hSw _ e; omega) hSo hSs (fun k e => by have := hSw _ e; omega)⟩

theorem pairs_new (a : Option Addr) (n c : Nat) (o s : Nat) (w : World) : Calls Try.prog 32 #[.slice a n c, .int .u8 o, .int .u8 s] w fun e w' =>
    e = .returned (.func (.func 37) #[] #[.pointer (some ⟨w.heap.size, 0, none⟩), .pointer (some ⟨w.heap.size + 1, 0, none⟩), .pointer (some ⟨w.heap.size + 2, 0, none⟩)]) ∧
    ((w.alloc (.cells #[.slice a n c] 22)).alloc (.cells #[.int .u8 o] 5)).alloc (.cells #[.int .u8 s] 5) = w' := by
  go_enter Try.func32, Try.ntmps32
  go_wp2
  go_ret
  exact ⟨rfl, rfl⟩
/-- The pairs of a kind of brackets of a text that has lines; a round may write to the blocks of S, which are older. -/
theorem pairs_tells (a : Option Addr) (n c : Nat) (ls : List ByteArray) (b : Nat) (S : Nat → Prop) (w : World) (h : Ss w a n c ls) (hs : ∀ s ∈ ls, s.size ≤ 140737488355328) (hn6 : n ≤ 1000000) (htz : tz ls ≤ 900000) (h0n : 0 < n) (hI : kI b = true) (hS : ∀ k, S k → k < w.heap.size) :
    Calls Try.prog 32 #[.slice a n c, .int .u8 (kO b : Nat), .int .u8 (kS b : Nat)] w fun e w' =>
    ∃ g lb, e = .returned (.func (.func g) #[] lb) ∧ (∀ args w', (callFunc g args).run Try.prog w' = .ok (.enter g args) w') ∧ Iter2 Try.prog g lb encpp 12 (Kc S) (P ls b) w' ∧ Below w.heap.size w w' := by
  refine (pairs_new a n c (kO b) (kS b) w).mono ?_
  rintro e w' ⟨rfl, rfl⟩
  obtain ⟨hsz, g0, g1, g2, hb⟩ := three_rows w (.cells #[.slice a n c] 22) (.cells #[.int .u8 (kO b : Nat)] 5) (.cells #[.int .u8 (kS b : Nat)] 5)
  refine ⟨_, _, rfl, enters_of Try.func37 (by kernel_rfl) rfl, ?_, hb⟩
  exact pairs_iter _ _ _ _ _ _ (SrcV.below h hb) hs hn6 htz h0n (kI_facts hI).1 ((cell_of_row _ _ 0 _ _ _ g0).trans (by simp)) g1 g2 S (fun k hk => by have := hS k hk; omega) (fun hk => by have := hS _ hk; omega) (fun hk => by have := hS _ hk; omega)
end Go.Proofs.Ytbimblfkkmpieaa.Pr
