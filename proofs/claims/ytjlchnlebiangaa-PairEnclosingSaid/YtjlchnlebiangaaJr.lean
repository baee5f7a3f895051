/-
  Package pair: partner.
-/
import Derived.Test.YtjlchnlebiangaaJp
import Derived.Test.YtjlchnlebiangaaJb
set_option linter.unusedVariables false
set_option linter.unusedSimpArgs false
set_option maxRecDepth 100000
namespace Go.Proofs.Ytjlchnlebiangaa.Pr
open Go Go.RowKit Go.Proofs.Ytjlchnlebiangaa.Vk Go.Proofs.Ytjlchnlebiangaa.Str Go.Proofs.Ytjlchnlebiangaa.Ln Go.Proofs.Ytjlchnlebiangaa.Cl Go.Proofs.Ytjlchnlebiangaa.Mv Go.Proofs.Ytjlchnlebiangaa.Wd Go.Shelf
attribute [local go_sem] Oper.semAt_some

/-- Two places held against one another. -/
theorem eq_p2 (p q : P2) (v : Bool) (h : decide (p = q) = v) (W : World) : (binOp .eql 24 (.agg #[.int .i64 p.1, .int .i64 p.2]) (.agg #[.int .i64 q.1, .int .i64 q.2])).run Try.prog W = .ok (.bool v) W := by
  have := Mv.eq_pos p.1 p.2 q.1 q.2 W
  rw [this, ← h]
  congr 2
  obtain ⟨a, b⟩ := p
  obtain ⟨c, d⟩ := q
  simp only [Prod.mk.injEq]
  by_cases h1 : a = c
  · by_cases h2 : b = d
    · simp [h1, h2]
    · simp [h1, h2]; omega
  · simp [h1]; omega
theorem hlt {V : World} {k : Nat} {o : Obj} (h : V.heap[k]? = some o) : k < V.heap.size := (Array.getElem?_eq_some_iff.1 h).1
/-- What stands between the rounds: the place at A, the answer's two variables behind it. -/
structure Pt (w Wi : World) (A : Nat) (p : P2) (V : World) : Prop where
  kn : Kn w Wi V
  pos : PosAt V A p.1 p.2
  res : PosAt V (A + 1) 0 0
  bl : V.heap[A + 2]? = some (.cells #[.bool false] 4 (0, 0))
theorem Pt.below {w Wi : World} {A B : Nat} {p : P2} {V V' : World} (h : Pt w Wi A p V) (hA : A + 3 ≤ B) (hw : w.heap.size ≤ B) (hb : Below B V V') : Pt w Wi A p V' :=
  ⟨h.kn.trans ⟨hb.os, hb.tape, hb.output, hb.size, fun k _ hn => hb.block k (by have : ¬ w.heap.size ≤ k := hn; omega)⟩, (hb.block _ (by omega)).trans h.pos, (hb.block _ (by omega)).trans h.res, (hb.block _ (by omega)).trans h.bl⟩

/-- The answer stands in its variables. -/
def PtX (A : Nat) (p : P2) (pre : List PP) (V : World) : Prop :=
  ∃ (p0 : List PP) (x : PP) (q : P2), pre = p0 ++ [x] ∧ ptn p p0 = none ∧ ptn p [x] = some q ∧ PosAt V (A + 1) q.1 q.2 ∧ V.heap[A + 2]? = some (.cells #[.bool true] 4 (0, 0))

set_option maxHeartbeats 16000000 in
theorem partner_any (a : Option Addr) (n c' : Nat) (ls : List ByteArray) (i k : Nat) (w : World) (h : Ss w a n c' ls) (hs : ∀ s ∈ ls, s.size ≤ 140737488355328) (hn6 : n ≤ 1000000) (htz : tz ls ≤ 900000) (hi : i < n) (hk : k < (lineAt ls i).size) (hI : kI (bt (lineAt ls i) k) = true) :
    Calls Try.prog 21 #[.slice a n c', .agg #[.int .i64 i, .int .i64 k]] w fun e w' => e = .returned (nthU (oV (ptn (i, k) (P ls (bt (lineAt ls i) k))))) ∧ Below w.heap.size w w' := by
  have hlen := h.length
  have hn := h.le63
  obtain ⟨b, hb⟩ : ∃ b, b = bt (lineAt ls i) k := ⟨_, rfl⟩
  rw [← hb] at hI ⊢
  obtain ⟨V, hV⟩ : ∃ V, V = ptn (i, k) (P ls b) := ⟨_, rfl⟩
  rw [← hV]
  obtain ⟨o, ho⟩ : ∃ o, o = kO b := ⟨_, rfl⟩
  obtain ⟨s, hss⟩ : ∃ s, s = kS b := ⟨_, rfl⟩
  obtain ⟨op, hop⟩ : ∃ op, op = kB b := ⟨_, rfl⟩
  have hkd : ∀ W, Calls Try.prog 13 #[.int .u8 ((lineAt ls i)[k]'hk).toNat] W fun e w' => e = .returned (.tuple #[.int .u8 o, .int .u8 s, .bool op, .bool true]) ∧ W = w' := fun W => by
    have := kind_any b W
    unfold kV at this
    rw [← ho, ← hss, ← hop, hI] at this
    rw [bt_at, ← hb]; exact this
  obtain ⟨X, hX⟩ : ∃ X, X = ((w.alloc (.cells #[.int .i64 (i : Int), .int .i64 (k : Int)] 24)).alloc (.cells #[.int .i64 0, .int .i64 0] 24)).alloc (.cells #[.bool false] 4) := ⟨_, rfl⟩
  obtain ⟨hsX, e0, e1, e2, hbX⟩ := three_rows w (.cells #[.int .i64 (i : Int), .int .i64 (k : Int)] 24) (.cells #[.int .i64 0, .int .i64 0] 24) (.cells #[.bool false] 4)
  rw [← hX] at hsX e0 e1 e2 hbX
  obtain ⟨A, hA⟩ : ∃ A, A = w.heap.size := ⟨_, rfl⟩
  rw [← hA] at e0 e1 e2
  have e0 : PosAt X A (i : Int) (k : Int) := e0
  have e1 : PosAt X (A + 1) 0 0 := e1
  have hAw : w.heap.size ≤ A := by omega
  have hwA : A ≤ w.heap.size := by omega
  have HX := Lib.hid (And.intro hX hA)
  obtain ⟨ab, ao, rfl, hcx, hnc, _⟩ := h.read i (by omega)
  rw [← lineAt_get (ls := ls) (k := i) (by omega)] at hcx
  have f0 := fun z : Gr X => z.cell e0.c0
  have f1 := fun z : Gr X => z.cell e0.c1
  have f2 := fun z : Gr X => z.cell (cell_later hbX hcx)
  have h5 := fun z : Gr X => hkd z.W
  have HS := Lib.hid h
  have hpt := fun W (hW : Below w.heap.size w W) => pairs_tells _ n c' ls b (fun _ => False) W (SrcV.below h hW) hs hn6 htz (by omega) hI (fun k e => e.elim)
  rw [← ho, ← hss] at hpt
  have HPT := Lib.hid hpt
  have HV := Lib.hid hV
  have HE := Lib.hid (And.intro e0 (And.intro e1 (And.intro e2 hbX)))
  clear hX h hcx hV hkd ho hss hop hb hI hpt e0 e1 e2 hbX hA
  refine (callsIn_wide (n := 9)).1 ?_
  refine callsIn_of_wp_marks Try.func21 rfl trivial ?_ rfl
  simp only [Try.ntmps21, List.size_toArray, List.length_cons, List.length_nil, Nat.reduceAdd, Nat.reduceSub, Array.replicate_succ, Array.replicate_zero, List.push_toArray, List.append_toArray, List.nil_append, List.cons_append]
  refine wpIn_mono (Q := noPanic _) ?_ (noPanic_out _)
  gi_wp2_with fail
  rw [← HX.out.1, ← HX.out.2]
  refine wpIn_wide.2 ?_
  refine wp_region_grow (by kernel_rfl) (by kernel_rfl) ?_
  repeat (go_big_quiet_step (first | (go_at_call 13; exact Calls.grow_of_same (h5 _))))
  refine wpQuiet_nil ?_
  rintro X5 ⟨⟨_, hX5⟩, rfl⟩
  clear f0 f1 f2 h5
  gi_wp2_with fail
  refine ⟨trivial, ?_⟩
  refine (callsIn_wide.2 (HPT.out X5 (below_on HE.out.2.2.2 hX5))).mono ?_
  rintro e Wi ⟨g, lb, rfl, hen, hit, hb3⟩
  obtain ⟨f0, f1, f2, f3⟩ := HE.out
  have hb13 := below_on hX5 hb3
  have bi := below_on f3 hb13
  have f0 := f0.below hb13 f0.lt
  have f1 := f1.below hb13 f1.lt
  have f2 := (hb13.block _ (hlt f2)).trans f2
  have hAi : A + 3 ≤ Wi.heap.size := by have := hb13.size; omega
  have hwi := bi.size
  clear hb3 hb13 f3 HE HX HPT hX5 hsX
  generalize P ls b = xs at *
  gi_wp2_with fail
  refine rangeFunc_iter2 (by omega) (gf := g) (lb := lb) rfl hen hit
    (fun h1 h2 => h1.trans h2) (fun V l o o' _ ho hc _ => Kc.put V l o o' ho hc) (Below.refl _ _) (fun _ => rfl)
    (fun pre V => Pt w Wi A (i, k) V ∧ Wi.heap.size ≤ V.heap.size ∧ ptn (i, k) pre = none)
    (fun c pre V => c = .ret ∧ Kn w Wi V ∧ Wi.heap.size ≤ V.heap.size ∧ PtX A (i, k) pre V) ?hI ?hIx ⟨⟨Fr.refl _ _, f0, f1, f2⟩, Nat.le_refl _, rfl⟩ ?round ?done ?stop
  case hI => exact ⟨fun s V h => h.2.1, fun s V V' h hb => ⟨h.1.below hAi hwi hb, Nat.le_trans h.2.1 hb.size, h.2.2⟩⟩
  case hIx =>
    intro c
    refine ⟨fun s V h => h.2.2.1, ?_⟩
    rintro s V V' ⟨h1, h2, h3, p0, x, q, h4, h5, h6, h7, h8⟩ hb
    exact ⟨h1, h2.trans ⟨hb.os, hb.tape, hb.output, hb.size, fun k _ hn => hb.block k (by have : ¬ w.heap.size ≤ k := hn; omega)⟩, Nat.le_trans h3 hb.size, p0, x, q, h4, h5, h6, (hb.block _ (by omega)).trans h7, (hb.block _ (by omega)).trans h8⟩
  case stop =>
    rintro D c pre V9 hD ⟨rest, hpre⟩ hne ⟨rfl, hF, hsz, p0, x, q, rfl, hp0, hx, hq, hb⟩ hk
    have hn : V = some q := by
      rw [HV.out, ← hpre, List.append_assoc, ptn_append _ _ _ hp0]
      have : [x] ++ rest = x :: rest := rfl
      rw [this, ptn_cons]
      rw [ptn_cons] at hx
      split at hx
      · rename_i h1; rw [if_pos h1]; exact hx
      · rename_i h1
        rw [if_neg h1]
        split at hx
        · rename_i h2; rw [if_pos h2]; exact hx
        · cases hx
    have HN := Lib.hid (And.intro hF (And.intro hq (And.intro hb hn)))
    clear hF hq hb hn hx hp0 hpre
    gi_wp2
    refine ⟨by simp, .inl ⟨_, _, rfl, run_takeDeferred hk, ?_⟩⟩
    obtain ⟨hF, hq, hb, hn⟩ := HN.out
    refine ⟨_, results_pos_bool rfl _ _ (A + 1) (A + 2) q.1 q.2 true rfl rfl ((World.putObj_heap_other (by omega)).trans hq) ((cell_of_row _ _ 0 _ _ _ ((World.putObj_heap_other (by omega)).trans hb)).trans (by simp)), by rw [hn]; rfl, ?_⟩
    exact (Kn.below bi hF).grown (grownBy_putObj' _ D _) (Kn.below bi hF).size (fun k e => by cases e; omega)
  case done =>
    rintro D V9 hD ⟨hP, hsz, hno⟩ hk
    have m0 := hP.res.c0
    have m1 := hP.res.c1
    have z0 := fun k => frozen_of_row V9 (A + 1) k _ _ hP.res
    have b0 : V9.cell? ⟨A + 2, 0, none⟩ = some (.bool false) := (cell_of_row V9 _ 0 _ _ _ hP.bl).trans (by simp)
    have z2 := frozen_of_row V9 (A + 2) 0 _ _ hP.bl
    have hn : V = none := by rw [HV.out]; exact hno
    have HN := Lib.hid (And.intro hP (And.intro hk hn))
    clear hP hk hn hno
    gi_wp2
    obtain ⟨hP, hk, hn⟩ := HN.out
    obtain ⟨V1, hV1⟩ : ∃ V1, V1 = ((V9.setCell ⟨A + 1, 0, none⟩ (.int .i64 0)).setCell ⟨A + 1, 1, none⟩ (.int .i64 0)).setCell ⟨A + 2, 0, none⟩ (.bool false) := ⟨_, rfl⟩
    have e1 : PosAt V1 (A + 1) 0 0 := by rw [hV1]; exact PosAt.other (So.set2 hP.res) (by omega)
    have e2 : V1.heap[A + 2]? = some (.cells #[.bool false] 4 (0, 0)) := by
      rw [hV1]
      exact (heap_setCell_same _ (A + 2) 0 _ _ (.bool false) ((So.set2_other (by omega)).trans hP.bl)).trans (by simp)
    have e3 : V1.heap[D]? = some (.deferred (some [])) := by
      rw [hV1]
      exact ((Below.heap_setCell _ _ _ _ (by simp; omega)).trans (So.set2_other (by omega))).trans hk
    have e4 : Below w.heap.size w V1 := by
      rw [hV1]
      exact (((Kn.below bi hP.kn).setCell (p := ⟨A + 1, 0, none⟩) (by simp; omega) _).setCell (p := ⟨A + 1, 1, none⟩) (by simp; omega) _).setCell (p := ⟨A + 2, 0, none⟩) (by simp; omega) _
    rw [hV1] at e1 e2 e3 e4
    refine ⟨by simp, .inl ⟨_, _, rfl, run_takeDeferred e3, ?_⟩⟩
    refine ⟨_, results_pos_bool rfl _ _ (A + 1) (A + 2) 0 0 false rfl rfl ((World.putObj_heap_other (by omega)).trans e1) ((cell_of_row _ _ 0 _ _ _ ((World.putObj_heap_other (by omega)).trans e2)).trans (by simp)), by rw [hn]; rfl, ?_⟩
    exact e4.grown (grownBy_putObj' _ D _) e4.size (fun k e => by cases e; omega)
  case round =>
    rintro l' pre ⟨x, y⟩ V0 ⟨rest, hpr⟩ hsz0 hi0
    dsimp only [encpp]
    have HI0 := Lib.hid hi0
    clear hi0
    gi_wp2
    have hb0 : Below V0.heap.size V0 ((V0.alloc (.cells #[.int .i64 x.1, .int .i64 x.2] 24)).alloc (.cells #[.int .i64 y.1, .int .i64 y.2] 24)) := two_below _ _ _
    refine ⟨Keep.ofFr (Fr.ofBelow hb0 (fun _ => False)) hsz0 (fun k e => e.elim), Kc.ofBelow hb0, ⟨HI0.out.1.below hAi hwi (hb0.mono HI0.out.2.1), Nat.le_trans HI0.out.2.1 hb0.size, HI0.out.2.2⟩, ?_⟩
    rintro V9 hgr hl - hszV ⟨hP, hsz9, hno⟩
    obtain ⟨QB, hQB⟩ : ∃ QB, QB = V0.heap.size := ⟨_, rfl⟩
    have gx : PosAt V9 QB x.1 x.2 := by
      rw [hQB]
      exact (hgr.block _ (by simp; omega) (by intro e; injection e with e; omega)).trans ((Below.heap_alloc _ _ _ (by simp)).trans (heap_alloc_new V0 _))
    have gy : PosAt V9 (QB + 1) y.1 y.2 := by
      rw [hQB]
      exact (hgr.block _ (by simp) (by intro e; injection e with e; omega)).trans (two_new V0 _ _)
    rw [← hQB]
    have hQM : Wi.heap.size + 14 ≤ QB := by omega
    have p0 := hP.pos.c0
    have p1 := hP.pos.c1
    have x0 := gx.c0
    have x1 := gx.c1
    have y0 := gy.c0
    have y1 := gy.c1
    have m0 := hP.res.c0
    have m1 := hP.res.c1
    have z0 := fun k => frozen_of_row V9 (A + 1) k _ _ hP.res
    have b0 : V9.cell? ⟨A + 2, 0, none⟩ = some (.bool false) := (cell_of_row V9 _ 0 _ _ _ hP.bl).trans (by simp)
    have z2 := frozen_of_row V9 (A + 2) 0 _ _ hP.bl
    have HP := Lib.hid (And.intro hP (And.intro hsz9 hno))
    clear hgr hl gx gy hQB HI0 hP hno hb0 hsz0
    cases hx : decide ((i, k) = x)
    · have q1 := fun W => eq_p2 (i, k) x false hx W
      cases hy : decide ((i, k) = y)
      · have q2 := fun W => eq_p2 (i, k) y false hy W
        have hpn : ptn (i, k) [(x, y)] = none := by
          rw [ptn_cons, if_neg (fun e => (of_decide_eq_false hx) e.symm), if_neg (fun e => (of_decide_eq_false hy) e.symm)]; rfl
        have HPN := Lib.hid hpn
        clear hpn hx hy
        gi_wp2
        obtain ⟨hP, hsz9, hno⟩ := HP.out
        exact ⟨Keep.refl _ _ _, Kc.refl _ _, hP, hsz9, by rw [ptn_append _ _ _ hno]; exact HPN.out⟩
      · have q2 := fun W => eq_p2 (i, k) y true hy W
        have hpn : ptn (i, k) [(x, y)] = some x := by
          rw [ptn_cons, if_neg (fun e => (of_decide_eq_false hx) e.symm), if_pos (of_decide_eq_true hy).symm]
        have HPN := Lib.hid hpn
        clear hpn hx hy
        gi_wp2
        obtain ⟨hP, hsz9, hno⟩ := HP.out
        have f9 : Fr (fun k => k = A + 1 ∨ k = A + 2) V9 _ := (((Fr.refl (fun k => k = A + 1 ∨ k = A + 2) V9).setCell (p := ⟨A + 1, 0, none⟩) (fun _ => .inl rfl) (.int .i64 x.1)).setCell (p := ⟨A + 1, 1, none⟩) (fun _ => .inl rfl) (.int .i64 x.2)).setCell (p := ⟨A + 2, 0, none⟩) (fun _ => .inr rfl) (.bool true)
        refine ⟨Keep.ofFr f9 (by omega) (fun k e => by omega), rfl, hP.kn.trans (f9.mono (fun k _ e => by show w.heap.size ≤ k; omega)), Nat.le_trans hsz9 f9.size, pre, (x, y), x, rfl, hno, HPN.out, ?_, ?_⟩
        · exact PosAt.other (So.set2 hP.res) (by omega)
        · exact (heap_setCell_same _ (A + 2) 0 _ _ (.bool true) ((So.set2_other (by omega)).trans hP.bl)).trans (by simp)
    · have q1 := fun W => eq_p2 (i, k) x true hx W
      have hpn : ptn (i, k) [(x, y)] = some y := by
        rw [ptn_cons, if_pos (of_decide_eq_true hx).symm]
      have HPN := Lib.hid hpn
      clear hpn hx
      gi_wp2
      obtain ⟨hP, hsz9, hno⟩ := HP.out
      have f9 : Fr (fun k => k = A + 1 ∨ k = A + 2) V9 _ := (((Fr.refl (fun k => k = A + 1 ∨ k = A + 2) V9).setCell (p := ⟨A + 1, 0, none⟩) (fun _ => .inl rfl) (.int .i64 y.1)).setCell (p := ⟨A + 1, 1, none⟩) (fun _ => .inl rfl) (.int .i64 y.2)).setCell (p := ⟨A + 2, 0, none⟩) (fun _ => .inr rfl) (.bool true)
      refine ⟨Keep.ofFr f9 (by omega) (fun k e => by omega), rfl, hP.kn.trans (f9.mono (fun k _ e => by show w.heap.size ≤ k; omega)), Nat.le_trans hsz9 f9.size, pre, (x, y), y, rfl, hno, HPN.out, ?_, ?_⟩
      · exact PosAt.other (So.set2 hP.res) (by omega)
      · exact (heap_setCell_same _ (A + 2) 0 _ _ (.bool true) ((So.set2_other (by omega)).trans hP.bl)).trans (by simp)
end Go.Proofs.Ytjlchnlebiangaa.Pr
