/-
  Package wordobj: the runs of a line in a row, and the number of the one that has a column (runsAt).
-/
import Derived.Test.YtenehehljmckbaaOb
import Derived.Test.YtenehehljmckbaaOi
import Derived.Test.YtenehehljmckbaaUk
set_option linter.unusedVariables false
set_option linter.unusedSimpArgs false
set_option maxRecDepth 100000
namespace Go.Proofs.Ytenehehljmckbaa.Wo
open Go Go.RowKit Go.Proofs.Ytenehehljmckbaa.Vk Go.Proofs.Ytenehehljmckbaa.Str Go.Proofs.Ytenehehljmckbaa.Ln Go.Proofs.Ytenehehljmckbaa.Cl Go.Proofs.Ytenehehljmckbaa.Mv
attribute [local go_sem] Oper.semAt_some

abbrev TW : TypeId := 53
/-- What stands between the rounds: the place at A, the kind behind it; the line at M, the runs behind it, the number behind them. -/
structure Rt (w Wi : World) (A M D : Nat) (l c : Int) (b : Bool) (st : ByteArray) (m : Nat) (pre : List RN) (V : World) : Prop where
  kn : Kn w Wi V
  pos : PosAt V A l c
  big : V.heap[A + 1]? = some (.cells #[.bool b] 4 (0, 0))
  str : V.heap[M]? = some (.cells #[.string st] 9 (0, 0))
  row : Got TW EW 3 (c3 st b) (M + 1) D pre V
  ix : V.heap[M + 2]? = some (.cells #[.int .i64 (m : Int)] 3 (0, 0))
section
variable {w Wi V V' : World} {A M D m : Nat} {l c : Int} {b : Bool} {st : ByteArray} {pre : List RN}
theorem Rt.grown {B : Nat} {row : Option Nat} (h : Rt w Wi A M D l c b st m pre V) (hA : A + 2 ≤ B) (hM : M + 3 ≤ B) (hB : w.heap.size ≤ B) (hg : V.grownBy V' row) (hr : ∀ r, row = some r → B ≤ r ∧ ∃ o : Obj, V.heap[r]? = some o ∧ o.isCells = false) : Rt w Wi A M D l c b st m pre V' := by
  have hk : ∀ k, k < B → k < V.heap.size → V'.heap[k]? = V.heap[k]? := fun k hk hkA => hg.block k hkA (fun e => by have := (hr _ e.symm).1; omega)
  exact ⟨own_kn (α := RN) hB [] V V' row h.kn hg hr, (hk _ (by omega) h.pos.lt).trans h.pos, (hk _ (by omega) (Array.getElem?_eq_some_iff.1 h.big).1).trans h.big, (hk _ (by omega) (Array.getElem?_eq_some_iff.1 h.str).1).trans h.str,
    h.row.grown (B := B) (by omega) hg hr, (hk _ (by omega) (Array.getElem?_eq_some_iff.1 h.ix).1).trans h.ix⟩
theorem Rt.below (h : Rt w Wi A M D l c b st m pre V) (hb : Below V.heap.size V V') : Rt w Wi A M D l c b st m pre V' :=
  ⟨h.kn.trans (Fr.ofBelow hb _), h.pos.below hb h.pos.lt, (hb.block _ (Array.getElem?_eq_some_iff.1 h.big).1).trans h.big, (hb.block _ (Array.getElem?_eq_some_iff.1 h.str).1).trans h.str, h.row.below hb, (hb.block _ (Array.getElem?_eq_some_iff.1 h.ix).1).trans h.ix⟩
theorem Rt.app {S : Nat → Prop} {x : RN} (h : Rt w Wi A M D l c b st m pre V) (hf : Fr S V V') (hS : ∀ k, S k → k = M + 1 ∨ D ≤ k) (hA : A + 2 ≤ M) (hD : M + 3 ≤ D) (hw : w.heap.size ≤ M) (hr : Got TW EW 3 (c3 st b) (M + 1) D (pre ++ [x]) V') : Rt w Wi A M D l c b st m (pre ++ [x]) V' := by
  have hk : ∀ k, k ≠ M + 1 → k < D → k < V.heap.size → V'.heap[k]? = V.heap[k]? := fun k h1 h2 h3 => hf.block k h3 (fun e => by have := hS k e; omega)
  exact ⟨h.kn.trans (hf.mono (fun k _ e => by have := hS k e; show w.heap.size ≤ k; omega)), (hk _ (by omega) (by omega) h.pos.lt).trans h.pos, (hk _ (by omega) (by omega) (Array.getElem?_eq_some_iff.1 h.big).1).trans h.big,
    (hk _ (by omega) (by omega) (Array.getElem?_eq_some_iff.1 h.str).1).trans h.str, hr, (hk _ (by omega) (by omega) (Array.getElem?_eq_some_iff.1 h.ix).1).trans h.ix⟩
theorem Rt.inc (h : Rt w Wi A M D l c b st m pre V) (j : Nat) (hA : A + 2 ≤ M) (hD : M + 3 ≤ D) (hw : w.heap.size ≤ M) : Rt w Wi A M D l c b st j pre (V.setCell ⟨M + 2, 0, none⟩ (.int .i64 (j : Int))) :=
  ⟨h.kn.trans ((Fr.refl _ V).setCell (p := ⟨M + 2, 0, none⟩) (fun _ => (by show w.heap.size ≤ M + 2; omega)) _), h.pos.other (by omega), (Below.heap_setCell _ _ _ _ (show A + 1 ≠ M + 2 by omega)).trans h.big,
    (Below.heap_setCell _ _ _ _ (show M ≠ M + 2 by omega)).trans h.str, h.row.put (p := ⟨M + 2, 0, none⟩) _ (show M + 2 ≠ M + 1 by omega) (show M + 2 < D by omega), (heap_setCell_same V (M + 2) 0 _ _ _ h.ix).trans (by simp)⟩
end

/-- The first two variables: the place, the kind. -/
structure Pb (w W : World) (l c : Int) (b : Bool) : Prop where
  below : Below w.heap.size w W
  size : w.heap.size + 2 ≤ W.heap.size
  pos : PosAt W w.heap.size l c
  big : W.heap[w.heap.size + 1]? = some (.cells #[.bool b] 4 (0, 0))
theorem Pb.new (w : World) (l c : Int) (b : Bool) : Pb w ((w.alloc (.cells #[.int .i64 l, .int .i64 c] 36)).alloc (.cells #[.bool b] 4)) l c b :=
  ⟨two_below _ _ _, by simp, PosAt.below (PosAt.new w l c) ((Below.refl _ _).alloc (Nat.le_refl _) _) (by simp), two_new w _ _⟩
theorem Pb.on {w W W' : World} {l c : Int} {b : Bool} (h : Pb w W l c b) (hb : Below W.heap.size W W') : Pb w W' l c b :=
  ⟨h.below.trans (hb.mono h.below.size), Nat.le_trans h.size hb.size, h.pos.below hb h.pos.lt, (hb.block _ (Array.getElem?_eq_some_iff.1 h.big).1).trans h.big⟩
theorem Pb.bc {w W : World} {l c : Int} {b : Bool} (h : Pb w W l c b) : W.cell? ⟨w.heap.size + 1, 0, none⟩ = some (.bool b) := (cell_of_row W _ 0 _ _ _ h.big).trans (by simp)

theorem runsAt_no (a : Option Addr) (n c' : Nat) (ls : List ByteArray) (l c : Int) (b : Bool) (w : World) (h : Ss w a n c' ls) (hs : ∀ s ∈ ls, s.size ≤ 140737488355328) (hO : ¬ On ls l c) :
    Calls Try.prog 23 #[.slice a n c', .agg #[.int .i64 l, .int .i64 c], .bool b] w fun e w' => e = .returned (.tuple #[.slice none 0 0, .int .i64 0]) ∧ Below w.heap.size w w' := by
  obtain ⟨X, hX⟩ : ∃ X, X = (w.alloc (.cells #[.int .i64 l, .int .i64 c] 36)).alloc (.cells #[.bool b] 4) := ⟨_, rfl⟩
  have hT : Pb w X l c b := by rw [hX]; exact Pb.new w l c b
  have h1 := inside_any a n c' ls l c X (SrcV.below h hT.below) hs
  rw [decide_eq_false hO] at h1
  have HX := Lib.hid hX
  have p0 := hT.pos.c0
  have p1 := hT.pos.c1
  have hb := hT.below
  clear hX hT h hO
  go_enter Try.func23, Try.ntmps23
  go_wp2_with fail
  rw [← HX.out]
  refine h1.mono ?_
  rintro e w1 ⟨rfl, hb1⟩
  clear h1 p0 p1
  go_wp2
  go_ret2
  exact ⟨rfl, hb.trans (hb1.mono hb.size)⟩

set_option maxHeartbeats 16000000 in
theorem runsAt_yes (a : Option Addr) (n c' : Nat) (ls : List ByteArray) (i k : Nat) (b : Bool) (w : World) (h : Ss w a n c' ls) (hs : ∀ s ∈ ls, s.size ≤ 1000000) (hO : On ls i k) :
    Calls Try.prog 23 #[.slice a n c', .agg #[.int .i64 i, .int .i64 k], .bool b] w fun e w' =>
      ∃ a N cc, e = .returned (.tuple #[.slice a N cc, .int .i64 (cn k (rs (lineAt ls i) b))]) ∧ Ws (lineAt ls i) b w' a N cc (rs (lineAt ls i) b) ∧ Below w.heap.size w w' := by
  have hlen := h.length
  have hi : i < n := by have := hO.2.1; omega
  obtain ⟨i0, hi0, hz0, hz1, hz2⟩ := info_parts infoW
  obtain ⟨g0, o0, rfl, hcx, hnc⟩ := h.read i (by omega)
  rw [← lineAt_get (ls := ls) (k := i) (by omega)] at hcx
  have hst : (lineAt ls i).size ≤ 1000000 := by rw [lineAt_get (by omega)]; exact hs _ (List.getElem_mem _)
  obtain ⟨X, hX⟩ : ∃ X, X = (w.alloc (.cells #[.int .i64 (i : Int), .int .i64 (k : Int)] 36)).alloc (.cells #[.bool b] 4) := ⟨_, rfl⟩
  have hT : Pb w X i k b := by rw [hX]; exact Pb.new w i k b
  have h1 := inside_any _ n c' ls i k X (SrcV.below h hT.below) (fun s hh => Nat.le_trans (hs s hh) (by omega))
  rw [decide_eq_true hO] at h1
  have hmx : Try.prog.follows .mixedOrders = true := by kernel_rfl
  have HMX := Lib.hid hmx
  have HX := Lib.hid hX
  have p0 := hT.pos.c0
  have p1 := hT.pos.c1
  have b1 : (i : Int) < (n : Int) := by omega
  have HC := Lib.hid hcx
  obtain ⟨st, hstt⟩ : ∃ st, st = lineAt ls i := ⟨_, rfl⟩
  rw [← hstt] at hst HC ⊢
  clear hX h hO hs hcx hstt hmx hnc
  obtain ⟨A, hA⟩ : ∃ A, A = w.heap.size := ⟨_, rfl⟩
  have HAw := Lib.hid hA
  refine (callsIn_wide (n := 9)).1 ?_
  refine callsIn_of_wp_marks Try.func23 rfl trivial ?_ rfl
  simp only [Try.ntmps23, List.size_toArray, List.length_cons, List.length_nil, Nat.reduceAdd, Nat.reduceSub, Array.replicate_succ, Array.replicate_zero, List.push_toArray, List.append_toArray, List.nil_append, List.cons_append]
  refine wpIn_mono (Q := noPanic _) ?_ (noPanic_out _)
  gi_wp2_with fail
  refine ⟨trivial, ?_⟩
  rw [← HX.out]
  refine (callsIn_wide.2 h1).mono ?_
  rintro e w1 ⟨rfl, hb1⟩
  have T1 := hT.on hb1
  clear p0 p1 h1
  have p0 := T1.pos.c0
  have p1 := T1.pos.c1
  have bc := T1.bc
  have cx := cell_later T1.below HC.out
  have HT1 := Lib.hid T1
  obtain ⟨M, hM⟩ : ∃ M, M = w1.heap.size := ⟨_, rfl⟩
  obtain ⟨x2, hx2⟩ : ∃ x, x = ((w1.alloc (.cells #[.string st] 9)).alloc (.cells #[.slice none 0 0] TW)).alloc (.cells #[.int .i64 0] 3) := ⟨_, rfl⟩
  obtain ⟨s2, g2, g3, g4, hb2⟩ := three_rows w1 (.cells #[.string st] 9) (.cells #[.slice none 0 0] TW) (.cells #[.int .i64 0] 3)
  rw [← hx2, ← hM] at s2 g2 g3 g4
  rw [← hx2] at hb2
  have T2 := T1.on hb2
  have bx := T2.bc
  have sx : x2.cell? ⟨M, 0, none⟩ = some (.string st) := (cell_of_row x2 _ 0 _ _ _ g2).trans (by simp)
  have HM2 := Lib.hid (And.intro hx2 hM)
  have hsz1 := T1.size
  rw [hx2] at bx sx
  rw [hM] at sx
  clear T1 hT hb1 hx2 hM
  gi_wp2_with fail
  refine ⟨trivial, ?_⟩
  clear bx sx p0 p1 bc cx
  rw [← HM2.out.1, ← HM2.out.2]
  refine (callsIn_wide.2 (runs_keep st b (fun k => k = M + 1 ∨ k = M + 2) x2 (by omega) (fun k e => by omega))).mono ?_
  rintro e Wi ⟨g, lb, rfl, hen, hit, hb3, hsz3⟩
  have T3 := T2.on hb3
  have r2 := (hb3.block M (by omega)).trans g2
  have r3 := (hb3.block (M + 1) (by omega)).trans g3
  have r4 := (hb3.block (M + 2) (by omega)).trans g4
  have bi := T3.below
  have f0 := T3.pos
  have fb := T3.big
  rw [← hA] at f0 fb
  have hMw : M = w1.heap.size := HM2.out.2
  have hAM : A + 2 ≤ M := by omega
  have hMi : M + 5 = Wi.heap.size := by omega
  have hAw : w.heap.size ≤ A := by omega
  have hwA : A ≤ w.heap.size := by omega
  rw [← HAw.out]
  clear hb2 g2 g3 g4 T2 hb3 T3 s2 hsz1 hsz3 hA hMw HM2
  gi_wp2_with fail
  refine rangeFunc_iter (by omega) (gf := g) (lb := lb) rfl hen hit
    (fun h1 h2 => h1.trans h2) (fun V l o o' hl ho _ _ => Fr.grown (Fr.refl _ V) (grownBy_putObj' V l o') (fun k e _ => by cases e; exact .inr hl)) (Below.refl _ _) (fun _ => rfl)
    (fun pre V => Rt w Wi A M (Wi.heap.size + 2 + 0) i k b st (cn k pre) pre V)
    (fun c pre V => False) ?hI ?hIx ⟨Fr.refl _ _, f0, fb, r2, ⟨none, 0, r3, World.ownsRow_nil _ _ _ _⟩, r4⟩ ?round ?done ?stop
  case hI => exact fun s A' B row hs hg hr => hs.grown (B := Wi.heap.size) (by omega) (by omega) bi.size hg hr
  case hIx => exact fun c s A' B row h hg hr => h
  case stop => exact fun D c pre V hD hpre hne hf hk => hf.elim
  case done =>
    rintro D V hD hB hk
    obtain ⟨K, hK⟩ : ∃ K, K = cn k (rs st b) := ⟨_, rfl⟩
    rw [← hK] at hB
    have HKK := Lib.hid hK
    obtain ⟨aa, cc, g1, hrow⟩ := hB.row
    obtain ⟨N, hN⟩ : ∃ N, N = (rs st b).length := ⟨_, rfl⟩
    rw [← hN] at g1 hrow
    have y1 : V.cell? ⟨M + 1, 0, none⟩ = some (.slice aa N cc) := (cell_of_row V _ 0 _ _ _ g1).trans (by simp)
    have y2 : V.cell? ⟨M + 2, 0, none⟩ = some (.int .i64 K) := (cell_of_row V _ 0 _ _ _ hB.ix).trans (by simp)
    have f1 := fun z : Gr V => z.cell y1
    have f2 := fun z : Gr V => z.cell y2
    have HK := Lib.hid (And.intro hk (And.intro hrow (Kn.below bi hB.kn)))
    clear hB g1 hrow hN y1 y2 hk hK
    gi_wp2
    refine wpIn_wide.2 ?_
    refine wp_region_grow (by kernel_rfl) (by kernel_rfl) ?_
    repeat (go_big_quiet_step (fail))
    refine wpQuiet_nil ?_
    rintro V9 ⟨⟨_, hb9⟩, rfl⟩
    have hk9 := (hb9.block D (Array.getElem?_eq_some_iff.1 HK.out.1).1).trans HK.out.1
    have HB9 := Lib.hid hb9
    clear f1 f2 hb9
    gi_wp2
    refine ⟨by simp, .inl ⟨_, _, rfl, run_takeDeferred hk9, ?_⟩⟩
    obtain ⟨hk, hrow, hbel⟩ := HK.out
    have hrow9 := ownsRow_fr hrow (Fr.ofBelow HB9.out (fun _ => False)) (by simp)
    have hbel9 := hbel.trans (HB9.out.mono hbel.size)
    rw [← HKK.out]
    refine ⟨_, by simp [results, Try.results23, go_sem], aa, N, cc, rfl, ?_, hbel9.grown (grownBy_putObj' _ D _) hbel9.size (fun k e => by cases e; omega)⟩
    exact Ws.ofOwn (hrow9.kept (grownBy_putObj' _ D _) (by
      cases hbo : (Value.slice aa N cc).ownBlock with
      | none => exact .inl rfl
      | some g =>
        refine .inr fun e => ?_
        obtain ⟨cs, hcs⟩ := own_row_cells hrow9 g hbo
        injection e with e
        subst e
        rw [hcs] at hk9
        cases hk9))
  case round =>
    rintro l' pre x V0 ⟨rest, hpr⟩ hsz0 hi0
    dsimp only [encr]
    have HI0 := Lib.hid hi0
    clear hi0
    gi_wp2
    refine ⟨Keep.refl _ _ _, Fr.refl _ _, HI0.out, ?_⟩
    rintro V hgr hl - hszV hB
    have hrg := rs_rg (s := st) (b := b)
    have hpl : pre.length ≤ 1000000 := by have := congrArg List.length hpr; simp at this; have := hrg.len; omega
    obtain ⟨f, t⟩ := x
    have hft : f < t ∧ t ≤ st.size := by
      have hl : pre.length < (rs st b).length := by rw [hpr]; simp
      have e : (rs st b)[pre.length] = (f, t) := by simp [hpr]
      have h1 := hrg.ne _ hl
      have h2 := hrg.le _ hl
      rw [e] at h1 h2
      exact ⟨h1, h2⟩
    have hlt : f < st.size := by omega
    have hq : (f : Int) < (st.size : Int) := by omega
    obtain ⟨B, hBB⟩ : ∃ B, B = bk st b (f, t) := ⟨_, rfl⟩
    have hbe : (kl st b f == 0) = B := by rw [hBB]; unfold bk; by_cases e : kl st b f = 0 <;> simp [e]
    obtain ⟨aa, cc, g1, hrow⟩ := hB.row
    obtain ⟨N, hN⟩ : ∃ N, N = pre.length := ⟨_, rfl⟩
    rw [← hN] at g1 hrow hpl
    have y1 : V.cell? ⟨M + 1, 0, none⟩ = some (.slice aa N cc) := (cell_of_row V _ 0 _ _ _ g1).trans (by simp)
    have y2 : V.cell? ⟨M, 0, none⟩ = some (.string st) := (cell_of_row V _ 0 _ _ _ hB.str).trans (by simp)
    have y3 : V.cell? ⟨A + 1, 0, none⟩ = some (.bool b) := (cell_of_row V _ 0 _ _ _ hB.big).trans (by simp)
    have hob : ∀ g, (Value.slice aa N cc).ownBlock = some g → Wi.heap.size + 2 + 0 ≤ g := fun g hg => (hrow.lt g hg).1
    obtain ⟨S, hS⟩ : ∃ S : Nat → Prop, S = fun k => (Value.slice aa N cc).ownBlock = some k := ⟨_, rfl⟩
    have hSb : ∀ k, S k → Wi.heap.size + 2 + 0 ≤ k := fun k e => by rw [hS] at e; exact hob k e
    have HO := Lib.hid (And.intro hob (And.intro hS hSb))
    have HB := Lib.hid hB
    have HRW := Lib.hid (And.intro g1 hrow)
    have HN := Lib.hid hN
    have HBB := Lib.hid hBB
    have HPR := Lib.hid hpr
    have HFT := Lib.hid hft
    have F_1 := fun (C : World → Prop) (hC : Vs.Grows S V C) (z : Vs.In C) => hC.cell y1 (fun e => by have := HO.out.2.2 _ e; simp only at this; omega) z
    have F_2 := fun (C : World → Prop) (hC : Vs.Grows S V C) (z : Vs.In C) => hC.cell y2 (fun e => by have := HO.out.2.2 _ e; simp only at this; omega) z
    have F_3 := fun (C : World → Prop) (hC : Vs.Grows S V C) (z : Vs.In C) => hC.cell y3 (fun e => by have := HO.out.2.2 _ e; simp only at this; omega) z
    clear hB g1 hrow hN hBB hob hS hSb hpr hft hrg hgr hl HI0 y1 y2 y3
    gi_wp2_with fail
    refine Vs.wpIn_round_seg (S := S) [0, 1, 2, 3, 4, 5, 6, 7, 8, 9] [(10, 1), (11, 1), (12, 3)] HMX.out (by kernel_rfl) (by rintro ⟨_, _, h⟩; exact h) (by kernel_rfl) 47 rfl (by kernel_rfl) ?_
    simp only [List.map_cons, List.map_nil, Vs.opOf_succ, Vs.opOf_zero]
    apply Exists.intro
    refine ⟨fun C hC => ?_, ?_⟩
    · haveI hI := hC.one
      have f_1 := F_1 C hC
      have f_2 := F_2 C hC
      have f_3 := F_3 C hC
      have g := fun z : Vs.In C => of_kl st b f hlt z.W
      repeat (go_big_quiet_step (first | (go_at_call 29; exact Vs.Calls.in_of_same hC (g _))))
      exact wpQuiet_nil rfl
    clear F_1 F_2 F_3
    refine Vs.wpPath_make rfl ?_
    intro u hu
    have hsu := hu.size
    refine ⟨.slice (some ⟨u.heap.size, 0, none⟩) 1 1, u.alloc (.cells #[.int .i64 (f : Int), .int .i64 (t : Int), .bool B] EW), rfl, by simp only [Vs.opOf_succ, Vs.opOf_zero]; go_simp, Fr.ofBelow ((Below.refl _ u).alloc (Nat.le_refl _) _) _, ?_⟩
    simp only [Vs.opOf_succ, Vs.opOf_zero, Act.put, List.setIfInBounds_toArray, List.set_cons_zero, List.set_cons_succ]
    have SP := SrcV.run3 u st b (f, t)
    rw [← HBB.out] at SP
    obtain ⟨v, hv⟩ : ∃ v, v = u.alloc (.cells #[.int .i64 (f : Int), .int .i64 (t : Int), .bool B] EW) := ⟨_, rfl⟩
    have hbv : Below u.heap.size u v := by rw [hv]; exact (Below.refl _ u).alloc (Nat.le_refl _) _
    obtain ⟨gS, hgS⟩ : ∃ g, g = u.heap.size := ⟨_, rfl⟩
    have hgS5 : V.heap.size ≤ gS := by rw [hgS]; exact hsu
    have hu := hu.trans (hbv.mono hsu)
    have hsu := Nat.le_trans hsu hbv.size
    rw [← hv, ← hgS] at SP ⊢
    clear hv hbv hgS
    refine Vs.wpPath_make rfl ?_
    intro u hu9
    have hu := hu.trans (hu9.mono hsu)
    have hsu := Nat.le_trans hsu hu9.size
    have SP := SrcV.below SP hu9
    have hrw := ownsRow_fr HRW.out.2 (Fr.ofBelow hu (fun _ => False)) (by simp)
    obtain ⟨b4, c4, V4, hr4, hown, hg, _⟩ := run_append_srcv (P := Try.prog) u TW TW (Wi.heap.size + 2 + 0) EW i0 (.agg #[.int .i64 0, .int .i64 0, .bool false]) 3 24 underW hi0 hz0 hz1 hz2 rfl (by decide) _ N _ hrw (.slice (some ⟨gS, 0, none⟩) 1 1) 1 _ SP (by simp only [maxLen]; omega) (by omega) (by omega)
    have hF4 : Fr S u V4 := (Fr.refl _ u).grown hg (fun k hk _ => by rw [HO.out.2.1]; exact hk)
    refine ⟨_, V4, rfl, by simp only [Vs.opOf_succ, Vs.opOf_zero]; exact exec_append rfl rfl rfl hr4, hF4, ?_⟩
    simp only [Vs.opOf_succ, Vs.opOf_zero, Act.put, List.setIfInBounds_toArray, List.set_cons_zero, List.set_cons_succ]
    have hF5 : Fr S V V4 := (Fr.ofBelow hu _).trans hF4
    have hv4 := (hF5.block (M + 1) (Array.getElem?_eq_some_iff.1 HRW.out.1).1 (fun e => by have := HO.out.2.2 _ e; omega)).trans HRW.out.1
    refine Vs.wpPath_store rfl fun u6 hu6 => ?_
    have hv6 := (hu6.block (M + 1) (Array.getElem?_eq_some_iff.1 hv4).1).trans hv4
    have m0 : u6.cell? ⟨M + 1, 0, none⟩ = some (.slice aa N cc) := (cell_of_row u6 _ 0 _ _ _ hv6).trans (by simp)
    have zz : u6.frozen? ⟨M + 1, 0, none⟩ = false := frozen_of_row u6 _ 0 _ _ hv6
    refine ⟨u6.setCell ⟨M + 1, 0, none⟩ (.slice b4 (N + 1) c4), rfl, by simp only [Vs.opOf_succ, Vs.opOf_zero]; go_simp, ?_⟩
    simp only [Vs.opOf_succ, Vs.opOf_zero, Act.put, List.setIfInBounds_toArray, List.set_cons_zero, List.set_cons_succ]
    refine Vs.wpPath_end ?_
    intro W hW
    have hF6 : Fr (fun k => k = M + 1 ∨ S k) V (u6.setCell ⟨M + 1, 0, none⟩ (.slice b4 (N + 1) c4)) := ((hF5.trans (Fr.ofBelow hu6 _)).mono (fun _ _ e => .inr e)).setCell (p := ⟨M + 1, 0, none⟩) (fun _ => .inl rfl) _
    have hF7 := hF6.trans (Fr.ofBelow hW _)
    have hGot : Got TW EW 3 (c3 st b) (M + 1) (Wi.heap.size + 2 + 0) (pre ++ [(f, t)]) (u6.setCell ⟨M + 1, 0, none⟩ (.slice b4 (N + 1) c4)) := by
      refine ⟨b4, c4, ?_, ?_⟩
      · rw [List.length_append, List.length_singleton, ← HN.out]
        exact (heap_setCell_same u6 (M + 1) 0 _ _ _ hv6).trans (by simp)
      · rw [List.length_append, List.length_singleton, ← HN.out, fl_append, fl_one]
        have ho6 := ownsRow_fr hown (Fr.ofBelow hu6 (fun _ => False)) (by simp)
        exact ownsRow_fr ho6 ((Fr.refl (fun k => k = M + 1) u6).setCell (p := ⟨M + 1, 0, none⟩) (fun _ => rfl) _) (fun i hi e => by have := (ho6.lt i hi).1; omega)
    have hR := HB.out.app hF7 (fun k e => e.imp id (HO.out.2.2 k)) (by omega) (by omega) (by omega) (hGot.below hW)
    have hK9 : Keep Wi.heap.size (Wi.heap.size + 2 + 0) V W := Keep.ofFr hF7 hszV (fun k e => by
      rcases e with e | e
      · exact .inl (by omega)
      · exact .inr (HO.out.2.2 k e))
    have hKp : Fr (fun k => (k = M + 1 ∨ k = M + 2) ∨ Wi.heap.size ≤ k) V W := hF7.mono (fun k _ e => by
      rcases e with e | e
      · exact .inl (.inl e)
      · have := HO.out.2.2 k e; exact .inr (by omega))
    have H9 := Lib.hid (And.intro hR (And.intro hK9 hKp))
    have q0 := hR.pos.c1
    have q1 : W.cell? ⟨M + 2, 0, none⟩ = some (.int .i64 (cn k pre : Nat)) := (cell_of_row W _ 0 _ _ _ hR.ix).trans (by simp)
    have q2 : W.frozen? ⟨M + 2, 0, none⟩ = false := frozen_of_row W _ 0 _ _ hR.ix
    have hcl := cn_le (c := k) pre
    have hca := cn_add (c := k) pre (f, t)
    clear hF6 hF7 hGot hR hK9 hKp hv6 hv4 hF5 hF4 hown hg hr4 hrw SP m0 zz hW hu6 hu hu9 hbe HMX
    obtain ⟨K, hK⟩ : ∃ K, K = cn k pre := ⟨_, rfl⟩
    rw [← hK] at q1 hcl hca H9
    by_cases htk : t ≤ k
    · rw [if_pos htk] at hca
      have d0 : decide (t ≤ k) = true := decide_eq_true htk
      have d1 : decide ((t : Int) ≤ (k : Int)) = true := decide_eq_true (by omega)
      obtain ⟨J, hJ⟩ : ∃ J, J = K + 1 := ⟨_, rfl⟩
      have hNN := HN.out
      have hwJ : IntKind.i64.wrap ((K : Int) + 1) = (J : Int) := by rw [IntKind.wrap_i64]; omega
      rw [← hJ] at hca
      have HCA := Lib.hid hca
      clear hca hJ hK hcl hNN htk
      gi_wp2
      obtain ⟨hR, hK9, hKp⟩ := H9.out
      have hs9 := hK9.size
      have hi9 := hR.inc J (by omega) (by omega) (by omega)
      have hF9 : Fr (fun k => k = M + 2) W (W.setCell ⟨M + 2, 0, none⟩ (.int .i64 (J : Int))) := (Fr.refl (fun k => k = M + 2) W).setCell (p := ⟨M + 2, 0, none⟩) (fun _ => rfl) _
      refine ⟨hK9.trans (Keep.ofFr hF9 (by omega) (fun k e => .inl (by omega))), hKp.trans (hF9.mono (fun k _ e => .inl (.inr e))), ?_⟩
      show Rt w Wi A M (Wi.heap.size + 2 + 0) i k b st (cn k (pre ++ [(f, t)])) (pre ++ [(f, t)]) _
      rw [HCA.out]
      exact hi9
    · rw [if_neg htk] at hca
      have d0 : decide (t ≤ k) = false := decide_eq_false htk
      have d1 : decide ((t : Int) ≤ (k : Int)) = false := decide_eq_false (by omega)
      have HCA := Lib.hid hca
      clear hca hK hcl htk
      gi_wp2
      obtain ⟨hR, hK9, hKp⟩ := H9.out
      refine ⟨hK9, hKp, ?_⟩
      show Rt w Wi A M (Wi.heap.size + 2 + 0) i k b st (cn k (pre ++ [(f, t)])) (pre ++ [(f, t)]) _
      rw [HCA.out]
      exact hR
end Go.Proofs.Ytenehehljmckbaa.Wo
