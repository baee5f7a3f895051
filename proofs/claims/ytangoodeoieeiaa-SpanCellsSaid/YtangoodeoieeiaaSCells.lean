/-
  The law SpanCells, walked.
-/
import Derived.Test.YtangoodeoieeiaaSm
set_option linter.unusedVariables false
set_option linter.unusedSimpArgs false
set_option maxRecDepth 100000
namespace Go.Proofs.Ytangoodeoieeiaa.SCells
open Go Go.RowKit Go.Proofs.Ytangoodeoieeiaa.Vk Go.Proofs.Ytangoodeoieeiaa.Str Go.Proofs.Ytangoodeoieeiaa.Ln Go.Proofs.Ytangoodeoieeiaa.Cl Go.Proofs.Ytangoodeoieeiaa.So Go.Shelf
attribute [local go_sem] Oper.semAt_some

/-- A bool is handed back out of its variable. -/
theorem results_cell_bool {fn : Func} {p : Tmp} (h : fn.results = #[.cell p 4]) (tmps : Array Value) (w : World) (g : Nat) (q : Bool)
    (hp : tmps.getD p undef = .pointer (some ⟨g, 0, none⟩)) (hc : w.cell? ⟨g, 0, none⟩ = some (.bool q)) : (results fn tmps).run Try.prog w = .ok (.bool q) w := by
  have hp' : tmps[p]?.getD undef = .pointer (some ⟨g, 0, none⟩) := by simpa using hp
  simp only [results, h]
  go_simp

/-- Where the counters stand behind so many bytes. -/
def At (ls : List ByteArray) (n M : Nat) (pre : List Cell) (V : World) : Prop :=
  ∃ L I : Nat, V.heap[M]? = some (.cells #[.int .i64 L] 3 (0, 0)) ∧ V.heap[M + 1]? = some (.cells #[.int .i64 I] 3 (0, 0)) ∧ V.heap[M + 2]? = some (.cells #[.int .i64 (pre.length : Int)] 3 (0, 0)) ∧
    L ≤ n ∧ I ≤ (lineAt ls L).size ∧ cells (enr ls 0 n) = pre ++ rst ls n L I
theorem At.kept {ls : List ByteArray} {n M : Nat} {pre : List Cell} {V V' : World} (h : At ls n M pre V) (hb : ∀ k, M ≤ k → k < M + 3 → V'.heap[k]? = V.heap[k]?) : At ls n M pre V' := by
  obtain ⟨L, I, h1, h2, h3, hr⟩ := h
  exact ⟨L, I, (hb M (by omega) (by omega)).trans h1, (hb (M + 1) (by omega) (by omega)).trans h2, (hb (M + 2) (by omega) (by omega)).trans h3, hr⟩
theorem At.lt {ls : List ByteArray} {n M : Nat} {pre : List Cell} {V : World} (h : At ls n M pre V) : M + 2 < V.heap.size := by
  obtain ⟨L, I, h1, h2, h3, hr⟩ := h
  exact (Array.getElem?_eq_some_iff.1 h3).1

set_option maxHeartbeats 8000000 in
theorem walk (a : Option Addr) (n c : Nat) (ls : List ByteArray) (most : Int) (w : World) (h : Ss w a n c ls) (hs : ∀ s ∈ ls, s.size ≤ 140737488355328) (hm8 : (Lit.int .u8 most).wf = true) :
    Calls Try.prog 4 #[.slice a n c, .int .u8 most] w fun e w' => e = .returned (.bool true) ∧ Below w.heap.size w w' := by
  have hm : 0 ≤ most ∧ most ≤ 255 := by simpa [Lit.wf, IntKind.min, IntKind.max, IntKind.signed, IntKind.bits] using hm8
  have hlen := h.length
  have hblk : 0 < n → ∀ k, blk (Value.slice a n c) = some k → k < w.heap.size := fun h0 k hk => SrcV.blkLt h (by omega) k hk
  have HBLK := Lib.hid hblk
  clear hblk
  obtain ⟨w0, hw0⟩ : ∃ w0, w0 = (w.alloc (.cells #[.slice a n c] 29)).alloc (.cells #[.bool false] 4) := ⟨_, rfl⟩
  have hb0 : Below w.heap.size w w0 := by rw [hw0]; exact two_below _ _ _
  have hz0 : w0.heap.size = w.heap.size + 2 := by rw [hw0]; simp
  have a0 : w0.heap[w.heap.size]? = some (.cells #[.slice a n c] 29 (0, 0)) := by rw [hw0]; exact (Below.heap_alloc _ _ _ (by simp)).trans (heap_alloc_new w _)
  have b0 : w0.heap[w.heap.size + 1]? = some (.cells #[.bool false] 4 (0, 0)) := by rw [hw0]; exact two_new w _ _
  have hk := known_any w0
  have HW0 := Lib.hid hw0
  have H0 := Lib.hid (And.intro hb0 (And.intro (SrcV.below h hb0) (And.intro a0 b0)))
  have he := eqfc
  have hmx : Try.prog.follows .mixedOrders = true := by kernel_rfl
  clear hw0 hb0 a0 b0 hm8 h
  refine (callsIn_wide (n := 9)).1 ?_
  refine callsIn_of_wp_marks Try.func4 rfl trivial ?_ rfl
  simp only [Try.ntmps4, List.size_toArray, List.length_cons, List.length_nil, Nat.reduceAdd, Nat.reduceSub, Array.replicate_succ, Array.replicate_zero, List.push_toArray, List.append_toArray, List.nil_append, List.cons_append]
  refine wpIn_mono (Q := noPanic _) ?_ (noPanic_out _)
  gi_wp2_with fail
  rw [← HW0.out]
  refine ⟨trivial, ?_⟩
  refine (callsIn_wide.2 hk).mono ?_
  rintro e w1 ⟨rfl, hb1⟩
  clear hk
  obtain ⟨hb0, s0, a0, b0⟩ := H0.out
  have hz1 := hb1.size
  have a1 := (hb1.block _ (by omega)).trans a0
  have b1 := (hb1.block _ (by omega)).trans b0
  have s1 := SrcV.below s0 hb1
  have hb01 := hb0.trans (hb1.mono hb0.size)
  have y0 : w1.cell? ⟨w.heap.size, 0, none⟩ = some (.slice a n c) := (cell_of_row w1 _ 0 _ _ _ a1).trans (by simp)
  have z1 : w1.frozen? ⟨w.heap.size + 1, 0, none⟩ = false := frozen_of_row w1 _ 0 _ _ b1
  have y1 : w1.cell? ⟨w.heap.size + 1, 0, none⟩ = some (.bool false) := (cell_of_row w1 _ 0 _ _ _ b1).trans (by simp)
  have hli := light_any a n c ls w1 s1 hs
  have H1 := Lib.hid (And.intro hb01 (And.intro s1 (And.intro a1 b1)))
  clear hb0 s0 a0 b0 hb1 a1 b1 s1 hb01 H0 HW0
  gi_wp2_with fail
  refine ⟨trivial, ?_⟩
  refine (callsIn_wide.2 hli).mono ?_
  rintro e w' ⟨q, rfl, rfl, hq⟩
  clear hli
  cases q
  · clear hq
    gi_wp2
    exact ⟨_, results_cell_bool rfl _ _ (w.heap.size + 1) true rfl ((cell_of_row _ _ 0 _ _ _ (heap_setCell_same w1 _ 0 _ _ _ H1.out.2.2.2)).trans (by simp)), rfl, H1.out.1.setCell (p := ⟨w.heap.size + 1, 0, none⟩) (by show w.heap.size ≤ w.heap.size + 1; omega) _⟩
  obtain ⟨hn40, htz, _⟩ := hq rfl
  clear hq
  have hcn := cells_new a n c ls w1 H1.out.2.1 (by omega)
  gi_wp2_with fail
  refine ⟨trivial, ?_⟩
  refine (callsIn_wide.2 hcn).mono ?_
  rintro e w2 ⟨bx, ob, oc, rfl, cx, sx, hb2⟩
  clear hcn y0 y1 z1
  have HX := Lib.hid (And.intro cx sx)
  have HB2 := Lib.hid hb2
  clear cx sx hb2
  gi_wp2
  refine name_world ?_
  intro Wi hWi
  obtain ⟨M, hM⟩ : ∃ M, M = w2.heap.size := ⟨_, rfl⟩
  obtain ⟨hsi, e0, e1, e2, bi⟩ := three_rows w2 (.cells #[.int .i64 0] 3) (.cells #[.int .i64 0] 3) (.cells #[.int .i64 0] 3)
  rw [← hWi, ← hM] at hsi e0 e1 e2
  rw [← hWi] at bi
  have hz2 := HB2.out.size
  have hbxl : bx < M := by rw [hM]; exact World.block_lt_of_cell? w2 _ HX.out.1
  have hobl : 0 < n → ∀ b o, ob = some ⟨b, o, none⟩ → b < M := fun h0 b o e => by
    have h1 := HX.out.2
    subst e
    rw [hM]
    exact SrcV.blkLt h1 (by omega) b rfl
  have iter := cells_iter Wi bx (SrcV.below HX.out.2 bi) hs (cell_later bi HX.out.1) (fun k => k = M ∨ k = M + 1 ∨ k = M + 2) (by omega) (fun h0 b o e k => by have := hobl h0 b o e; omega) (fun k hk => by omega)
  have iter2 : ∀ V, Below M w2 V → Iter Try.prog 20 #[.pointer (some ⟨bx, 0, none⟩)] encc 6 (fun W W' => Fr (fun k => (M ≤ k ∧ k < V.heap.size) ∨ V.heap.size ≤ k) W W') (cells (enr ls 0 n)) V := fun V hV =>
    cells_iter V bx (SrcV.below HX.out.2 (hM ▸ hV)) hs (cell_later (hM ▸ hV) HX.out.1) (fun k => M ≤ k ∧ k < V.heap.size) (by omega) (fun h0 b o e k => by have := hobl h0 b o e; omega) (fun k hk => hk.2)
  have hat : At ls n M [] Wi := ⟨0, 0, e0, e1, e2, Nat.zero_le _, Nat.zero_le _, by rw [rst_all]; rfl⟩
  have hb2i : Below w1.heap.size w1 Wi := HB2.out.trans (bi.mono hz2)
  have hb1i : Below w.heap.size w Wi := H1.out.1.trans (hb2i.mono H1.out.1.size)
  have hri := (hb2i.block _ (Array.getElem?_eq_some_iff.1 H1.out.2.2.1).1).trans H1.out.2.2.1
  have hrj := (hb2i.block _ (Array.getElem?_eq_some_iff.1 H1.out.2.2.2).1).trans H1.out.2.2.2
  have hsrc := SrcV.below H1.out.2.1 hb2i
  have hNM : w.heap.size + 2 ≤ M := by omega
  have HI := Lib.hid (And.intro hb1i (And.intro hri (And.intro hrj hsrc)))
  have HIT2 := Lib.hid iter2
  have hMi : M + 3 = Wi.heap.size := hsi.symm
  have hbM : Below M w2 Wi := hM ▸ bi
  have HBM := Lib.hid hbM
  rw [← hM]
  clear e0 e1 e2 hb2i hb1i hri hrj hsrc hWi hsi iter2 hobl bi hbM HX HB2 H1 hM hz1 hz2
  refine rangeFunc_iter (by omega) (gf := 20) (lb := #[.pointer (some ⟨bx, 0, none⟩)]) rfl (enters_of Try.func20 (by kernel_rfl) rfl) iter
    (fun h1 h2 => h1.trans h2) (frK (Nat.le_refl _)) (Below.refl _ _) (fun _ => rfl)
    (fun pre V => Fr (fun k => (k = M ∨ k = M + 1 ∨ k = M + 2) ∨ Wi.heap.size ≤ k) Wi V ∧ At ls n M pre V)
    (fun c pre V => False) ?hI ?hIx ⟨Fr.refl _ _, hat⟩ ?round ?done ?stop
  case hI =>
    refine OwnFrom.and ?_ ?_
    · exact fun s A B row hs hg hr => Fr.grown hs hg (fun k e _ => .inr (by have := (hr k e).1; omega))
    · exact fun s A B row hs hg hr => hs.kept (fun k h1 h2 => hg.block k (by have := hs.lt; omega) (fun e => by have := (hr k e.symm).1; omega))
  case hIx => exact fun c s A B row hs hg hr => hs
  case stop => exact fun _ _ _ _ _ _ _ h _ => h.elim
  case round =>
    rintro l' pre ⟨⟨pl, pc⟩, pb⟩ V0 ⟨rest, hpr⟩ hsz0 hi0
    dsimp only [encc]
    have HPR := Lib.hid hpr
    have HI0 := Lib.hid hi0
    clear hpr hi0
    gi_wp2
    refine ⟨(Keep.refl _ _ _).alloc _ hsz0, (Fr.refl _ _).alloc _, ⟨HI0.out.1.alloc _, HI0.out.2.kept (fun k h1 h2 => Below.heap_alloc _ _ _ (by have := HI0.out.2.lt; omega))⟩, ?_⟩
    rintro V hgr hl - hszV ⟨hF, hA⟩
    have gx : V.heap[V0.heap.size]? = some (.cells #[.int .i64 pl, .int .i64 pc] 23 (0, 0)) := (hgr.block _ (by simp) (by intro e; injection e with e; omega)).trans (heap_alloc_new V0 _)
    obtain ⟨PB, hPB⟩ : ∃ PB, PB = V0.heap.size := ⟨_, rfl⟩
    rw [← hPB] at gx ⊢
    have hPBl : Wi.heap.size + 8 ≤ PB := by omega
    have HV := Lib.hid (And.intro hF (And.intro hA gx))
    clear hgr hF hA gx hPB hl hsz0
    gi_wp2
    gi_loopw [25] (fun _ wr => Hid (Fr (fun k => k = M ∨ k = M + 1) V wr ∧ At ls n M pre wr)) (fun _ wr => n - cnt M wr)
    case atStart => exact ⟨Fr.refl _ _, HV.out.2.1⟩
    case round =>
      obtain ⟨hFr, L, I, g0, g1, g2, hLn, hIs, hall⟩ := hrel.out
      have hL : L < n := by
        rcases Nat.lt_or_ge L n with h | h
        · exact h
        · obtain rfl : L = n := by omega
          rw [rst_end, List.append_nil] at hall
          obtain ⟨r, hr⟩ : ∃ r, cells (enr ls 0 L) = pre ++ ((pl, pc), pb) :: r := ⟨rest, HPR.out⟩
          rw [hall] at hr
          have := congrArg List.length hr
          simp at this
      have hFrW : Fr (fun k => (k = M ∨ k = M + 1 ∨ k = M + 2) ∨ Wi.heap.size ≤ k) Wi wr := HV.out.1.trans (hFr.mono (fun k _ e => .inl (by omega)))
      have x0 : wr.cell? ⟨w.heap.size, 0, none⟩ = some (.slice a n c) := (cell_of_row wr _ 0 _ _ _ ((hFrW.block _ (by omega) (by omega)).trans HI.out.2.1)).trans (by simp)
      have c0 : wr.cell? ⟨M, 0, none⟩ = some (.int .i64 L) := (cell_of_row wr _ 0 _ _ _ g0).trans (by simp)
      have c1 : wr.cell? ⟨M + 1, 0, none⟩ = some (.int .i64 I) := (cell_of_row wr _ 0 _ _ _ g1).trans (by simp)
      have hss : Ss wr a n c ls := SrcV.fr HI.out.2.2.2 hFrW (fun h0 k hk e => by
        have := HBLK.out h0 k hk
        omega)
      obtain ⟨b, o, ha, hcx, hnc, _⟩ := hss.read L (by omega)
      have hlt := lineAt_get (ls := ls) (k := L) (by omega)
      rw [← hlt] at hcx
      obtain ⟨st, hst⟩ : ∃ st, st = lineAt ls L := ⟨_, rfl⟩
      rw [← hst] at hcx
      rw [ha] at x0 ⊢
      have hLd : decide ((L : Int) < n) = true := decide_eq_true (by omega)
      have HST := Lib.hid hst
      have z0 : wr.frozen? ⟨M, 0, none⟩ = false := frozen_of_row wr _ 0 _ _ g0
      have z1 : wr.frozen? ⟨M + 1, 0, none⟩ = false := frozen_of_row wr _ 0 _ _ g1
      have hwL : IntKind.i64.wrap ((L : Int) + 1) = (L : Int) + 1 := by rw [IntKind.wrap_i64]; omega
      have HG := Lib.hid (And.intro hFr (And.intro g0 (And.intro g1 (And.intro g2 hall))))
      by_cases hI : I < st.size
      · have hId : decide ((st.size : Int) ≤ I) = false := decide_eq_false (by omega)
        have hI2 : I < (lineAt ls L).size := by rw [← hst]; exact hI
        obtain ⟨hx, hnx⟩ := rst_next hall HPR.out hL hI2
        obtain ⟨rfl, rfl, rfl⟩ : pl = L ∧ pc = I ∧ pb = st[I]'hI := by
          simp only [Prod.mk.injEq] at hx
          refine ⟨hx.1.1, hx.1.2, hx.2.trans ?_⟩
          simp only [hst]
        have gp := (hFr.block PB (by have := (Array.getElem?_eq_some_iff.1 HV.out.2.2).1; exact this) (by omega)).trans HV.out.2.2
        have p0 : wr.cell? ⟨PB, 0, none⟩ = some (.int .i64 pl) := (cell_of_row wr _ 0 _ _ _ gp).trans (by simp)
        have p1 : wr.cell? ⟨PB, 1, none⟩ = some (.int .i64 pc) := (cell_of_row wr _ 1 _ _ _ gp).trans (by simp)
        have hLd' : decide (n ≤ pl) = false := decide_eq_false (by omega)
        have hne := fun W => ne_pos pl pc W
        have c2 : wr.cell? ⟨M + 2, 0, none⟩ = some (.int .i64 (pre.length : Int)) := (cell_of_row wr _ 0 _ _ _ g2).trans (by simp)
        have z2 : wr.frozen? ⟨M + 2, 0, none⟩ = false := frozen_of_row wr _ 0 _ _ g2
        have hln : (cells (enr ls 0 n)).length + n = tz ls := by have := all_length ls; rw [hlen] at this; exact this
        have hpl : pre.length < 1300 := by have := congrArg List.length HPR.out; simp at this; omega
        have hstz : st.size ≤ 1240 := by
          have := tz_mem ls (lineAt ls pl) (by rw [lineAt_get (by omega)]; exact List.getElem_mem _)
          rw [← hst] at this
          omega
        have hwI : IntKind.i64.wrap ((pc : Int) + 1) = (pc : Int) + 1 := by rw [IntKind.wrap_i64]; omega
        have hwP : IntKind.i64.wrap ((pre.length : Int) + 1) = (pre.length : Int) + 1 := by rw [IntKind.wrap_i64]; omega
        have HNX := Lib.hid hnx
        clear hFr g0 g1 g2 hIs hall hFrW hss hlt hst hrel hI2 hx hnx gp hwL hln
        gi_wp2
        refine wpIn_round_quiet hmx (by kernel_rfl) (by rintro ⟨_, _, h⟩; exact h) (by kernel_rfl) ?_
        repeat (go_big_quiet_step (fail))
        refine wpQuiet_nil ?_
        rintro _ ⟨nq, rfl⟩
        gi_wp2
        refine wpIn_round_quiet hmx (by kernel_rfl) (by rintro ⟨_, _, h⟩; exact h) (by kernel_rfl) ?_
        repeat (go_big_quiet_step (fail))
        refine wpQuiet_nil ?_
        rintro _ ⟨nq2, rfl⟩
        gi_wp2
        obtain ⟨hFr, g0, g1, g2, hall⟩ := HG.out
        obtain ⟨V7, hV7⟩ : ∃ V7, V7 = ((wr.drewN (nq + nq2)).setCell ⟨M + 1, 0, none⟩ (.int .i64 ((pc : Int) + 1))).setCell ⟨M + 2, 0, none⟩ (.int .i64 ((pre.length : Int) + 1)) := ⟨_, rfl⟩
        have f7 : Fr (fun k => k = M ∨ k = M + 1 ∨ k = M + 2) V V7 := by
          rw [hV7]
          exact (((hFr.mono (fun k _ e => by omega)).drewN (nq + nq2)).setCell (p := ⟨M + 1, 0, none⟩) (fun _ => .inr (.inl rfl)) _).setCell (p := ⟨M + 2, 0, none⟩) (fun _ => .inr (.inr rfl)) _
        have k7 : Fr (fun k => (k = M ∨ k = M + 1 ∨ k = M + 2) ∨ Wi.heap.size ≤ k) V V7 := f7.mono (fun k _ e => .inl e)
        have e0 : V7.heap[M]? = some (.cells #[.int .i64 (pl : Int)] 3 (0, 0)) := by
          rw [hV7]; exact (Below.heap_setCell _ _ _ _ (by show M ≠ M + 2; omega)).trans ((Below.heap_setCell _ _ _ _ (by show M ≠ M + 1; omega)).trans g0)
        have e1 : V7.heap[M + 1]? = some (.cells #[.int .i64 ((pc + 1 : Nat) : Int)] 3 (0, 0)) := by
          rw [hV7]; exact (Below.heap_setCell _ _ _ _ (by show M + 1 ≠ M + 2; omega)).trans ((heap_setCell_same (wr.drewN (nq + nq2)) (M + 1) 0 _ _ _ g1).trans (by simp))
        have e2 : V7.heap[M + 2]? = some (.cells #[.int .i64 (((pre ++ [((pl, pc), st[pc])]).length : Nat) : Int)] 3 (0, 0)) := by
          rw [hV7, List.length_append, List.length_singleton]
          exact (heap_setCell_same _ (M + 2) 0 _ _ _ ((Below.heap_setCell _ _ _ _ (by show M + 2 ≠ M + 1; omega)).trans g2)).trans (by simp)
        have hat : At ls n M (pre ++ [((pl, pc), st[pc])]) V7 := by
          refine ⟨pl, pc + 1, e0, e1, e2, by omega, by rw [← HST.out]; omega, ?_⟩
          rw [HNX.out]
        have hfin : Keep Wi.heap.size (Wi.heap.size + 2 + 6) V V7 ∧ Fr (fun k => (k = M ∨ k = M + 1 ∨ k = M + 2) ∨ Wi.heap.size ≤ k) V V7 ∧ Fr (fun k => (k = M ∨ k = M + 1 ∨ k = M + 2) ∨ Wi.heap.size ≤ k) Wi V7 ∧ At ls n M (pre ++ [((pl, pc), st[pc])]) V7 :=
          ⟨Keep.ofFr f7 (by omega) (fun k e => .inl (by omega)), k7, HV.out.1.trans k7, hat⟩
        rw [hV7] at hfin
        exact hfin
      · have hIe : I = st.size := by rw [← hst] at hIs; omega
        have hId : decide ((st.size : Int) ≤ I) = true := decide_eq_true (by omega)
        clear hFr g0 g1 g2 hIs hall hFrW hss hlt hst hrel
        gi_wp2
        refine wpIn_round_quiet hmx (by kernel_rfl) (by rintro ⟨_, _, h⟩; exact h) (by kernel_rfl) ?_
        repeat (go_big_quiet_step (fail))
        refine wpQuiet_nil ?_
        rintro _ ⟨nq, rfl⟩
        gi_wp2
        obtain ⟨hFr, g0, g1, g2, hall⟩ := HG.out
        have g0' : ((wr.drewN nq).setCell ⟨M, 0, none⟩ (.int .i64 ((L : Int) + 1))).heap[M]? = some (.cells #[.int .i64 ((L + 1 : Nat) : Int)] 3 (0, 0)) := (heap_setCell_same (wr.drewN nq) M 0 _ _ _ g0).trans (by simp)
        have e0 : (((wr.drewN nq).setCell ⟨M, 0, none⟩ (.int .i64 ((L : Int) + 1))).setCell ⟨M + 1, 0, none⟩ (.int .i64 0)).heap[M]? = some (.cells #[.int .i64 ((L + 1 : Nat) : Int)] 3 (0, 0)) := (Below.heap_setCell _ _ _ _ (by show M ≠ M + 1; omega)).trans g0'
        have e1 : (((wr.drewN nq).setCell ⟨M, 0, none⟩ (.int .i64 ((L : Int) + 1))).setCell ⟨M + 1, 0, none⟩ (.int .i64 0)).heap[M + 1]? = some (.cells #[.int .i64 ((0 : Nat) : Int)] 3 (0, 0)) := (heap_setCell_same _ (M + 1) 0 _ _ _ ((Below.heap_setCell _ _ _ _ (by show M + 1 ≠ M; omega)).trans g1)).trans (by simp)
        have e2 : (((wr.drewN nq).setCell ⟨M, 0, none⟩ (.int .i64 ((L : Int) + 1))).setCell ⟨M + 1, 0, none⟩ (.int .i64 0)).heap[M + 2]? = some (.cells #[.int .i64 (pre.length : Int)] 3 (0, 0)) := (Below.heap_setCell _ _ _ _ (by show M + 2 ≠ M + 1; omega)).trans ((Below.heap_setCell _ _ _ _ (by show M + 2 ≠ M; omega)).trans g2)
        refine ⟨⟨((hFr.drewN nq).setCell (p := ⟨M, 0, none⟩) (fun _ => .inl rfl) _).setCell (p := ⟨M + 1, 0, none⟩) (fun _ => .inr rfl) _, L + 1, 0, e0, e1, e2, by omega, Nat.zero_le _, ?_⟩, ?_⟩
        · rw [← rst_line ls n L I (by omega) (by rw [← HST.out]; exact hIe)]; exact hall
        · rw [cnt_of e0, cnt_of g0]; omega
  case done =>
    rintro D V hD ⟨hF, hA⟩ hk
    have hln : (cells (enr ls 0 n)).length + n = tz ls := by have := all_length ls; rw [hlen] at this; exact this
    obtain ⟨N, hN⟩ : ∃ N, N = (cells (enr ls 0 n)).length := ⟨_, rfl⟩
    have hA2 : V.heap[M + 2]? = some (.cells #[.int .i64 (N : Int)] 3 (0, 0)) := by rw [hN]; exact hA.choose_spec.choose_spec.2.2.1
    have hMV := hA.lt
    have hzV := hF.size
    have hbV : Below w.heap.size w V := HI.out.1.trans (hF.below (B := w.heap.size) (by have := HI.out.1.size; omega) (by intro k hk; omega))
    have rV := (hF.block w.heap.size (by omega) (by omega)).trans HI.out.2.1
    have tV := (hF.block (w.heap.size + 1) (by omega) (by omega)).trans HI.out.2.2.1
    have x0 : V.cell? ⟨w.heap.size, 0, none⟩ = some (.slice a n c) := (cell_of_row V _ 0 _ _ _ rV).trans (by simp)
    have c2 : V.cell? ⟨M + 2, 0, none⟩ = some (.int .i64 (N : Int)) := (cell_of_row V _ 0 _ _ _ hA2).trans (by simp)
    have hss : Ss V a n c ls := SrcV.fr HI.out.2.2.2 hF (fun h0 k hk e => by
      have := HBLK.out h0 k hk
      omega)
    have hsz := fun m => size5_any a n c ls (V.drewN m) (Ss.drewN hss m) (by omega)
    have hsz' : ∀ m, Calls Try.prog 14 #[.slice a n c] (V.drewN m) fun e w' => e = .returned (.int .i64 (tz ls)) ∧ ∃ m, w' = V.drewN m := fun m => (hsz m).mono fun e w' h => ⟨h.1, m, h.2.symm⟩
    rw [← hN] at hln
    have hws : IntKind.i64.wrap ((tz ls : Int) - n) = (N : Int) := by rw [IntKind.wrap_i64]; omega
    have HD := Lib.hid (And.intro hk (And.intro hbV (And.intro tV (And.intro hF hA2))))
    have HNN := Lib.hid hN
    clear hA hss hsz hk hbV rV tV hF hA2 hN
    gi_wp2
    refine wpIn_wide.2 ?_
    go_quiet (exact hsz' _)
    obtain ⟨r, hr, hr29⟩ : ∃ r : Nat, most.tmod 30 = (r : Int) ∧ r ≤ 29 := by
      have h1 := Int.tmod_lt_of_pos most (b := 30) (by omega)
      have h2 := Int.tmod_nonneg 30 hm.1
      exact ⟨(most.tmod 30).toNat, by omega, by omega⟩
    have hwr : IntKind.u8.wrap (r : Int) = (r : Int) := by simp [IntKind.wrap, IntKind.bits, IntKind.signed]; omega
    have hwr2 : IntKind.i64.wrap (r : Int) = (r : Int) := by rw [IntKind.wrap_i64]; omega
    have hwr3 : IntKind.i64.wrap ((r : Int) + 1) = (r : Int) + 1 := by rw [IntKind.wrap_i64]; omega
    obtain ⟨V1, hV1⟩ : ∃ V1, V1 = V.drewN nq := ⟨_, rfl⟩
    rw [← hV1]
    have HV1 := Lib.hid hV1
    clear hV1
    go_wp2
    gi_wp2
    refine name_world ?_
    intro Wj hWj
    obtain ⟨K, hK⟩ : ∃ K, K = V1.heap.size := ⟨_, rfl⟩
    rw [← hK]
    have hKV : V.heap.size ≤ K := by rw [hK, HV1.out]; exact Nat.le_refl _
    have sj : Wj.heap.size = K + 2 := by rw [hWj, hK]; simp
    have bj : Below V1.heap.size V1 Wj := by rw [hWj]; exact two_below _ _ _
    have ej : Wj.heap[K]? = some (.cells #[.int .i64 ((([] : List Cell).length : Nat) : Int)] 3 (0, 0)) := by rw [hWj, hK]; exact (Below.heap_alloc _ _ _ (by simp)).trans (heap_alloc_new V1 _)
    have ej1 : Wj.heap[K + 1]? = some (.cells #[.int .i64 ((r : Int) + 1)] 3 (0, 0)) := by rw [hWj, hK]; exact two_new V1 _ _
    obtain ⟨hk, hbV, tV, hF, hA2⟩ := HD.out
    have hDV : D < V.heap.size := (Array.getElem?_eq_some_iff.1 hk).1
    have fV1 : Fr (fun _ => False) V V1 := by rw [HV1.out]; exact (Fr.refl _ V).drewN nq
    have bVj : Below V.heap.size V Wj := (fV1.below (Nat.le_refl _) (by simp)).trans (bj.mono fV1.size)
    have HJ := Lib.hid (show Below w.heap.size w Wj ∧ Wj.heap[M + 2]? = some (.cells #[.int .i64 (N : Int)] 3 (0, 0)) ∧ Wj.heap[K + 1]? = some (.cells #[.int .i64 ((r : Int) + 1)] 3 (0, 0)) ∧ Wj.heap[w.heap.size + 1]? = some (.cells #[.bool false] 4 (0, 0)) ∧ Wj.heap[D]? = some (.deferred (some [])) from
      ⟨hbV.trans (bVj.mono hbV.size), (bVj.block _ (by omega)).trans hA2, ej1, (bVj.block _ (by omega)).trans tV, (bVj.block _ hDV).trans hk⟩)
    have iter2 := HIT2.out Wj (HBM.out.trans ((hF.below (B := M) (by omega) (by intro k hk; omega)).trans (bVj.mono (by omega))))
    clear hk hbV tV hF hA2 fV1 bVj bj ej1 hWj hK HD HIT2 HBM HI HBLK iter c2 x0 hat
    have hwr4 : ∀ k : Nat, k < 1300 → IntKind.i64.wrap ((k : Int) + 1) = (k : Int) + 1 := fun k hk => by rw [IntKind.wrap_i64]; omega
    refine rangeFunc_iter (by omega) (gf := 20) (lb := #[.pointer (some ⟨bx, 0, none⟩)]) rfl (enters_of Try.func20 (by kernel_rfl) rfl) iter2
      (fun h1 h2 => h1.trans h2) (frK (Nat.le_refl _)) (Below.refl _ _) (fun _ => rfl)
      (fun pre V => Fr (fun k => k = K ∨ Wj.heap.size ≤ k) Wj V ∧ V.heap[K]? = some (.cells #[.int .i64 (pre.length : Int)] 3 (0, 0)) ∧ pre.length < r + 1)
      (fun c pre V => c = .exit 4 ∧ Fr (fun k => k = K ∨ Wj.heap.size ≤ k) Wj V ∧ V.heap[K]? = some (.cells #[.int .i64 (pre.length : Int)] 3 (0, 0)) ∧ pre.length = r + 1) ?hI2 ?hIx2 ⟨Fr.refl _ _, ej, by simp⟩ ?round2 ?done2 ?stop2
    case hI2 =>
      rintro s A B row ⟨h1, h2, h3⟩ hg hr
      exact ⟨Fr.grown h1 hg (fun k e _ => .inr (by have := (hr k e).1; omega)), (hg.block _ (Array.getElem?_eq_some_iff.1 h2).1 (fun e => by have := (hr _ e.symm).1; omega)).trans h2, h3⟩
    case hIx2 =>
      rintro c s A B row ⟨h0, h1, h2, h3⟩ hg hr
      exact ⟨h0, Fr.grown h1 hg (fun k e _ => .inr (by have := (hr k e).1; omega)), (hg.block _ (Array.getElem?_eq_some_iff.1 h2).1 (fun e => by have := (hr _ e.symm).1; omega)).trans h2, h3⟩
    case round2 =>
      rintro l' pre ⟨⟨pl, pc⟩, pb⟩ V0 _ hsz0 hi0
      dsimp only [encc]
      gi_wp2
      refine ⟨Keep.refl _ _ _, Fr.refl _ _, hi0, ?_⟩
      rintro V3 - - - hszV ⟨hF3, g3, hlt3⟩
      clear hi0
      have cK := (hF3.block (K + 1) (by omega) (by omega)).trans HJ.out.2.2.1
      have y1 : V3.cell? ⟨K, 0, none⟩ = some (.int .i64 (pre.length : Int)) := (cell_of_row V3 _ 0 _ _ _ g3).trans (by simp)
      have y2 : V3.cell? ⟨K + 1, 0, none⟩ = some (.int .i64 ((r : Int) + 1)) := (cell_of_row V3 _ 0 _ _ _ cK).trans (by simp)
      have z1 : V3.frozen? ⟨K, 0, none⟩ = false := frozen_of_row V3 _ 0 _ _ g3
      have hwp := hwr4 pre.length (by omega)
      have f3 : Fr (fun k => k = K) V3 (V3.setCell ⟨K, 0, none⟩ (.int .i64 ((pre.length : Int) + 1))) := (Fr.refl (fun k => k = K) V3).setCell (p := ⟨K, 0, none⟩) (fun _ => rfl) _
      have fin3 : (V3.setCell ⟨K, 0, none⟩ (.int .i64 ((pre.length : Int) + 1))).heap[K]? = some (.cells #[.int .i64 (((pre ++ [((pl, pc), pb)]).length : Nat) : Int)] 3 (0, 0)) := by
        rw [List.length_append, List.length_singleton]
        exact (heap_setCell_same V3 K 0 _ _ _ g3).trans (by simp)
      have FIN := Lib.hid (show Keep Wj.heap.size (Wj.heap.size + 2 + 6) V3 (V3.setCell ⟨K, 0, none⟩ (.int .i64 ((pre.length : Int) + 1))) ∧ Fr (fun k => (M ≤ k ∧ k < Wj.heap.size) ∨ Wj.heap.size ≤ k) V3 (V3.setCell ⟨K, 0, none⟩ (.int .i64 ((pre.length : Int) + 1))) ∧ Fr (fun k => k = K ∨ Wj.heap.size ≤ k) Wj (V3.setCell ⟨K, 0, none⟩ (.int .i64 ((pre.length : Int) + 1))) ∧ _ from
        ⟨Keep.ofFr f3 (by omega) (fun k e => .inl (by omega)), f3.mono (fun k _ e => .inl (by omega)), hF3.trans (f3.mono (fun k _ e => .inl e)), fin3⟩)
      clear cK g3 hF3 f3 fin3
      by_cases hlast : pre.length < r
      · have hc1 : decide (r ≤ pre.length) = false := decide_eq_false (by omega)
        gi_wp2
        exact ⟨FIN.out.1, FIN.out.2.1, FIN.out.2.2.1, FIN.out.2.2.2, by simp; omega⟩
      · have hc1 : decide (r ≤ pre.length) = true := decide_eq_true (by omega)
        gi_wp2
        exact ⟨FIN.out.1, rfl, FIN.out.2.2.1, FIN.out.2.2.2, by simp; omega⟩
    case done2 =>
      rintro D2 V2 hD2g ⟨hF2, hg2, hlt2⟩ hk2
      rw [← HNN.out] at hg2 hlt2
      have hsV2 := hF2.size
      have B2 : Below w.heap.size w V2 := HJ.out.1.trans (hF2.below (B := w.heap.size) (by have := HJ.out.1.size; omega) (by intro k hk; have := HJ.out.1.size; omega))
      have cM := (hF2.block (M + 2) (by omega) (by omega)).trans HJ.out.2.1
      have cK := (hF2.block (K + 1) (by omega) (by omega)).trans HJ.out.2.2.1
      have cT := (hF2.block (w.heap.size + 1) (by omega) (by omega)).trans HJ.out.2.2.2.1
      have cD := (hF2.block D (by omega) (by omega)).trans HJ.out.2.2.2.2
      have y1 : V2.cell? ⟨K, 0, none⟩ = some (.int .i64 (N : Int)) := (cell_of_row V2 _ 0 _ _ _ hg2).trans (by simp)
      have y2 : V2.cell? ⟨K + 1, 0, none⟩ = some (.int .i64 ((r : Int) + 1)) := (cell_of_row V2 _ 0 _ _ _ cK).trans (by simp)
      have y3 : V2.cell? ⟨M + 2, 0, none⟩ = some (.int .i64 (N : Int)) := (cell_of_row V2 _ 0 _ _ _ cM).trans (by simp)
      have y4 : V2.cell? ⟨w.heap.size + 1, 0, none⟩ = some (.bool false) := (cell_of_row V2 _ 0 _ _ _ cT).trans (by simp)
      have z4 : V2.frozen? ⟨w.heap.size + 1, 0, none⟩ = false := frozen_of_row V2 _ 0 _ _ cT
      have hgg : ((N : Int) == (N : Int)) = true := beq_self_eq_true _
      have hD2 : D2 < V2.heap.size := (Array.getElem?_eq_some_iff.1 hk2).1
      have HE := Lib.hid (And.intro B2 (And.intro cT (And.intro cD hk2)))
      clear B2 cM cK cT cD hk2 hF2 hg2
      gi_wp2
      obtain ⟨B2, cT, cD, hk2⟩ := HE.out
      have hDD : D ≠ D2 := by omega
      have k2 : (V2.setCell ⟨w.heap.size + 1, 0, none⟩ (.bool true)).heap[D2]? = some (.deferred (some [])) := (Below.heap_setCell _ _ _ _ (by show D2 ≠ w.heap.size + 1; omega)).trans hk2
      have k1 : ((V2.setCell ⟨w.heap.size + 1, 0, none⟩ (.bool true)).putObj D2 (.deferred none)).heap[D]? = some (.deferred (some [])) := (World.putObj_heap_other hDD).trans ((Below.heap_setCell _ _ _ _ (by show D ≠ w.heap.size + 1; omega)).trans cD)
      refine ⟨by simp, .inl ⟨_, _, rfl, run_takeDeferred k2, ?_⟩⟩
      refine ⟨by simp, .inl ⟨_, _, rfl, run_takeDeferred k1, ?_⟩⟩
      have hT : (((V2.setCell ⟨w.heap.size + 1, 0, none⟩ (.bool true)).putObj D2 (.deferred none)).putObj D (.deferred none)).heap[w.heap.size + 1]? = some (.cells #[.bool true] 4 (0, 0)) :=
        (World.putObj_heap_other (by omega)).trans ((World.putObj_heap_other (by omega)).trans ((heap_setCell_same V2 (w.heap.size + 1) 0 _ _ _ cT).trans (by simp)))
      refine ⟨_, results_cell_bool rfl _ _ (w.heap.size + 1) true rfl ((cell_of_row _ _ 0 _ _ _ hT).trans (by simp)), rfl, ?_⟩
      have B3 : Below w.heap.size w (V2.setCell ⟨w.heap.size + 1, 0, none⟩ (.bool true)) := B2.setCell (p := ⟨w.heap.size + 1, 0, none⟩) (by show w.heap.size ≤ w.heap.size + 1; omega) _
      exact (B3.grown (grownBy_putObj' _ D2 _) B3.size (fun k e => by cases e; omega)).grown (grownBy_putObj' _ D _) (by simp; exact B2.size) (fun k e => by cases e; omega)
    case stop2 =>
      rintro D2 c pre V2 hD2g hpre hne ⟨rfl, hF2, hg2, hlt2⟩ hk2
      have hpl : pre.length ≤ N := by rw [HNN.out]; exact hpre.length_le
      rw [hlt2] at hg2 hpl
      rw [show (((r + 1 : Nat)) : Int) = (r : Int) + 1 by omega] at hg2
      clear hpre hne
      have hsV2 := hF2.size
      have B2 : Below w.heap.size w V2 := HJ.out.1.trans (hF2.below (B := w.heap.size) (by have := HJ.out.1.size; omega) (by intro k hk; have := HJ.out.1.size; omega))
      have cM := (hF2.block (M + 2) (by omega) (by omega)).trans HJ.out.2.1
      have cK := (hF2.block (K + 1) (by omega) (by omega)).trans HJ.out.2.2.1
      have cT := (hF2.block (w.heap.size + 1) (by omega) (by omega)).trans HJ.out.2.2.2.1
      have cD := (hF2.block D (by omega) (by omega)).trans HJ.out.2.2.2.2
      have y1 : V2.cell? ⟨K, 0, none⟩ = some (.int .i64 ((r : Int) + 1)) := (cell_of_row V2 _ 0 _ _ _ hg2).trans (by simp)
      have y2 : V2.cell? ⟨K + 1, 0, none⟩ = some (.int .i64 ((r : Int) + 1)) := (cell_of_row V2 _ 0 _ _ _ cK).trans (by simp)
      have y3 : V2.cell? ⟨M + 2, 0, none⟩ = some (.int .i64 (N : Int)) := (cell_of_row V2 _ 0 _ _ _ cM).trans (by simp)
      have y4 : V2.cell? ⟨w.heap.size + 1, 0, none⟩ = some (.bool false) := (cell_of_row V2 _ 0 _ _ _ cT).trans (by simp)
      have z4 : V2.frozen? ⟨w.heap.size + 1, 0, none⟩ = false := frozen_of_row V2 _ 0 _ _ cT
      have hgg : (((r : Int) + 1) == ((r : Int) + 1)) = true := beq_self_eq_true _
      have hD2 : D2 < V2.heap.size := (Array.getElem?_eq_some_iff.1 hk2).1
      have HE := Lib.hid (And.intro B2 (And.intro cT (And.intro cD hk2)))
      clear B2 cM cK cT cD hk2 hF2 hg2
      gi_wp2
      obtain ⟨B2, cT, cD, hk2⟩ := HE.out
      have hDD : D ≠ D2 := by omega
      have k2 : (V2.setCell ⟨w.heap.size + 1, 0, none⟩ (.bool true)).heap[D2]? = some (.deferred (some [])) := (Below.heap_setCell _ _ _ _ (by show D2 ≠ w.heap.size + 1; omega)).trans hk2
      have k1 : ((V2.setCell ⟨w.heap.size + 1, 0, none⟩ (.bool true)).putObj D2 (.deferred none)).heap[D]? = some (.deferred (some [])) := (World.putObj_heap_other hDD).trans ((Below.heap_setCell _ _ _ _ (by show D ≠ w.heap.size + 1; omega)).trans cD)
      refine ⟨by simp, .inl ⟨_, _, rfl, run_takeDeferred k2, ?_⟩⟩
      refine ⟨by simp, .inl ⟨_, _, rfl, run_takeDeferred k1, ?_⟩⟩
      have hT : (((V2.setCell ⟨w.heap.size + 1, 0, none⟩ (.bool true)).putObj D2 (.deferred none)).putObj D (.deferred none)).heap[w.heap.size + 1]? = some (.cells #[.bool true] 4 (0, 0)) :=
        (World.putObj_heap_other (by omega)).trans ((World.putObj_heap_other (by omega)).trans ((heap_setCell_same V2 (w.heap.size + 1) 0 _ _ _ cT).trans (by simp)))
      refine ⟨_, results_cell_bool rfl _ _ (w.heap.size + 1) true rfl ((cell_of_row _ _ 0 _ _ _ hT).trans (by simp)), rfl, ?_⟩
      have B3 : Below w.heap.size w (V2.setCell ⟨w.heap.size + 1, 0, none⟩ (.bool true)) := B2.setCell (p := ⟨w.heap.size + 1, 0, none⟩) (by show w.heap.size ≤ w.heap.size + 1; omega) _
      exact (B3.grown (grownBy_putObj' _ D2 _) B3.size (fun k e => by cases e; omega)).grown (grownBy_putObj' _ D _) (by simp; exact B2.size) (fun k e => by cases e; omega)

end Go.Proofs.Ytangoodeoieeiaa.SCells
