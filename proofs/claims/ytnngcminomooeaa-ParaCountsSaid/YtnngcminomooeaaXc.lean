/-
  Package paraobj: the blocks of a text in a row, and the number of the one that has a line (blocksAt).
-/
import Derived.Test.YtnngcminomooeaaXb
import Derived.Test.YtnngcminomooeaaUk
set_option linter.unusedVariables false
set_option linter.unusedSimpArgs false
set_option maxRecDepth 100000
namespace Go.Proofs.Ytnngcminomooeaa.Po
open Go Go.RowKit Go.Proofs.Ytnngcminomooeaa.Vk Go.Proofs.Ytnngcminomooeaa.Str Go.Proofs.Ytnngcminomooeaa.Ln Go.Proofs.Ytnngcminomooeaa.Cl Go.Proofs.Ytnngcminomooeaa.Mv Go.Proofs.Ytnngcminomooeaa.Wo Go.Shelf
attribute [local go_sem] Oper.semAt_some

abbrev TK : TypeId := 55
abbrev EK : TypeId := 69
theorem infoK : (Try.prog.info? EK).map (fun i => (i.zero, i.size, i.bytes)) = some (some (.agg #[.int .i64 0, .int .i64 0]), 2, 16) := by kernel_rfl
theorem underK : Try.prog.underlying 55 = some (.slice EK) := by kernel_rfl
/-- One block, built as a slice. -/
theorem srcv_blk (w : World) (x : RN) : SrcV (w.alloc (.cells #[.int .i64 x.1, .int .i64 x.2] EK)) 2 (.slice (some ⟨w.heap.size, 0, none⟩) 1 1) 1 (c2 x) := by
  refine ⟨rfl, c2_one x, by simp [maxLen], .inr ⟨w.heap.size, 0, 1, rfl, Nat.le_refl _, by simp [maxLen], fun j u hu => ?_⟩⟩
  rw [Nat.zero_add, cell_of_row _ _ j _ _ _ (heap_alloc_new w _)]
  simpa [c2] using hu
/-- What stands between the rounds: the place at A; the blocks at M, the number behind them. -/
structure Rb (w Wi : World) (A M D : Nat) (l c : Int) (m : Nat) (pre : List RN) (V : World) : Prop where
  kn : Kn w Wi V
  pos : PosAt V A l c
  row : Got TK EK 2 c2 M D pre V
  ix : V.heap[M + 1]? = some (.cells #[.int .i64 (m : Int)] 3 (0, 0))
section
variable {w Wi V V' : World} {A M D m : Nat} {l c : Int} {pre : List RN}
theorem Rb.grown {B : Nat} {row : Option Nat} (h : Rb w Wi A M D l c m pre V) (hA : A + 1 ≤ B) (hM : M + 2 ≤ B) (hB : w.heap.size ≤ B) (hg : V.grownBy V' row) (hr : ∀ r, row = some r → B ≤ r ∧ ∃ o : Obj, V.heap[r]? = some o ∧ o.isCells = false) : Rb w Wi A M D l c m pre V' := by
  have hk : ∀ k, k < B → k < V.heap.size → V'.heap[k]? = V.heap[k]? := fun k hk hkA => hg.block k hkA (fun e => by have := (hr _ e.symm).1; omega)
  exact ⟨own_kn (α := RN) hB [] V V' row h.kn hg hr, (hk _ (by omega) h.pos.lt).trans h.pos, h.row.grown (B := B) (by omega) hg hr, (hk _ (by omega) (Array.getElem?_eq_some_iff.1 h.ix).1).trans h.ix⟩
theorem Rb.app {S : Nat → Prop} {x : RN} (h : Rb w Wi A M D l c m pre V) (hf : Fr S V V') (hS : ∀ k, S k → k = M ∨ D ≤ k) (hA : A + 1 ≤ M) (hD : M + 2 ≤ D) (hw : w.heap.size ≤ M) (hr : Got TK EK 2 c2 M D (pre ++ [x]) V') : Rb w Wi A M D l c m (pre ++ [x]) V' := by
  have hk : ∀ k, k ≠ M → k < D → k < V.heap.size → V'.heap[k]? = V.heap[k]? := fun k h1 h2 h3 => hf.block k h3 (fun e => by have := hS k e; omega)
  exact ⟨h.kn.trans (hf.mono (fun k _ e => by have := hS k e; show w.heap.size ≤ k; omega)), (hk _ (by omega) (by omega) h.pos.lt).trans h.pos, hr, (hk _ (by omega) (by omega) (Array.getElem?_eq_some_iff.1 h.ix).1).trans h.ix⟩
theorem Rb.inc (h : Rb w Wi A M D l c m pre V) (j : Nat) (hA : A + 1 ≤ M) (hD : M + 2 ≤ D) (hw : w.heap.size ≤ M) : Rb w Wi A M D l c j pre (V.setCell ⟨M + 1, 0, none⟩ (.int .i64 (j : Int))) :=
  ⟨h.kn.trans ((Fr.refl _ V).setCell (p := ⟨M + 1, 0, none⟩) (fun _ => (by show w.heap.size ≤ M + 1; omega)) _), h.pos.other (by omega),
    h.row.put (p := ⟨M + 1, 0, none⟩) _ (show M + 1 ≠ M by omega) (show M + 1 < D by omega), (heap_setCell_same V (M + 1) 0 _ _ _ h.ix).trans (by simp)⟩
end

/-- The first variable: the place. -/
structure Pp (w W : World) (l c : Int) : Prop where
  below : Below w.heap.size w W
  size : w.heap.size + 1 ≤ W.heap.size
  pos : PosAt W w.heap.size l c
theorem Pp.new (w : World) (l c : Int) : Pp w (w.alloc (.cells #[.int .i64 l, .int .i64 c] 36)) l c := ⟨(Below.refl _ w).alloc (Nat.le_refl _) _, by simp, PosAt.new w l c⟩
theorem Pp.on {w W W' : World} {l c : Int} (h : Pp w W l c) (hb : Below W.heap.size W W') : Pp w W' l c :=
  ⟨h.below.trans (hb.mono h.below.size), Nat.le_trans h.size hb.size, h.pos.below hb h.pos.lt⟩

theorem blocksAt_no (a : Option Addr) (n c' : Nat) (ls : List ByteArray) (l c : Int) (w : World) (h : Ss w a n c' ls) (hs : ∀ s ∈ ls, s.size ≤ 140737488355328) (hO : ¬ On ls l c) :
    Calls Try.prog 25 #[.slice a n c', .agg #[.int .i64 l, .int .i64 c]] w fun e w' => e = .returned (.tuple #[.slice none 0 0, .int .i64 0]) ∧ Below w.heap.size w w' := by
  obtain ⟨X, hX⟩ : ∃ X, X = w.alloc (.cells #[.int .i64 l, .int .i64 c] 36) := ⟨_, rfl⟩
  have hT : Pp w X l c := by rw [hX]; exact Pp.new w l c
  have h1 := inside_any a n c' ls l c X (SrcV.below h hT.below) hs
  rw [decide_eq_false hO] at h1
  have HX := Lib.hid hX
  have p0 := hT.pos.c0
  have p1 := hT.pos.c1
  have hb := hT.below
  clear hX hT h hO
  go_enter Try.func25, Try.ntmps25
  go_wp2_with fail
  rw [← HX.out]
  refine h1.mono ?_
  rintro e w1 ⟨rfl, hb1⟩
  clear h1 p0 p1
  go_wp2
  go_ret2
  exact ⟨rfl, hb.trans (hb1.mono hb.size)⟩

set_option maxHeartbeats 16000000 in
theorem blocksAt_yes (a : Option Addr) (n c' : Nat) (ls : List ByteArray) (i k : Nat) (w : World) (h : Ss w a n c' ls) (hs : ∀ s ∈ ls, s.size ≤ 140737488355328) (hn6 : n ≤ 1000000) (hO : On ls i k) :
    Calls Try.prog 25 #[.slice a n c', .agg #[.int .i64 i, .int .i64 k]] w fun e w' =>
      ∃ a N cc, e = .returned (.tuple #[.slice a N cc, .int .i64 (cn i (bls ls))]) ∧ Rs w' a N cc (bls ls) ∧ Below w.heap.size w w' := by
  have hlen := h.length
  have hrl := bls_len ls
  obtain ⟨i0, hi0, hz0, hz1, hz2⟩ := info_parts infoK
  obtain ⟨X, hX⟩ : ∃ X, X = w.alloc (.cells #[.int .i64 (i : Int), .int .i64 (k : Int)] 36) := ⟨_, rfl⟩
  have hT : Pp w X i k := by rw [hX]; exact Pp.new w i k
  have h1 := inside_any _ n c' ls i k X (SrcV.below h hT.below) hs
  rw [decide_eq_true hO] at h1
  have HX := Lib.hid hX
  have p0 := hT.pos.c0
  have p1 := hT.pos.c1
  have HS := Lib.hid h
  clear hX h hO hs
  obtain ⟨A, hA⟩ : ∃ A, A = w.heap.size := ⟨_, rfl⟩
  have HAw := Lib.hid hA
  refine (callsIn_wide (n := 9)).1 ?_
  refine callsIn_of_wp_marks Try.func25 rfl trivial ?_ rfl
  simp only [Try.ntmps25, List.size_toArray, List.length_cons, List.length_nil, Nat.reduceAdd, Nat.reduceSub, Array.replicate_succ, Array.replicate_zero, List.push_toArray, List.append_toArray, List.nil_append, List.cons_append]
  refine wpIn_mono (Q := noPanic _) ?_ (noPanic_out _)
  gi_wp2_with fail
  refine ⟨trivial, ?_⟩
  rw [← HX.out]
  refine (callsIn_wide.2 h1).mono ?_
  rintro e w1 ⟨rfl, hb1⟩
  have T1 := hT.on hb1
  clear p0 p1 h1
  obtain ⟨M, hM⟩ : ∃ M, M = w1.heap.size := ⟨_, rfl⟩
  obtain ⟨x2, hx2⟩ : ∃ x, x = (w1.alloc (.cells #[.slice none 0 0] TK)).alloc (.cells #[.int .i64 0] 3) := ⟨_, rfl⟩
  have hb2 : Below w1.heap.size w1 x2 := by rw [hx2]; exact two_below _ _ _
  have g2 : x2.heap[M]? = some (.cells #[.slice none 0 0] TK (0, 0)) := by rw [hx2, hM]; exact (Below.heap_alloc _ _ _ (by simp)).trans (heap_alloc_new w1 _)
  have g3 : x2.heap[M + 1]? = some (.cells #[.int .i64 0] 3 (0, 0)) := by rw [hx2, hM]; exact two_new w1 _ _
  have T2 := T1.on hb2
  have HM2 := Lib.hid (And.intro hx2 hM)
  have hsz1 := T1.size
  clear T1 hT hb1 hx2 hM
  gi_wp2_with fail
  refine ⟨trivial, ?_⟩
  rw [← HM2.out.1, ← HM2.out.2]
  have hz2' : M + 1 < x2.heap.size := (Array.getElem?_eq_some_iff.1 g3).1
  refine (callsIn_wide.2 (blocks_keep a n c' ls (fun k => k = M ∨ k = M + 1) x2 (SrcV.below HS.out T2.below) hn6 (fun k e => by omega))).mono ?_
  rintro e Wi ⟨g, lb, rfl, hen, hit, hb3⟩
  have T3 := T2.on hb3
  have r3 := (hb3.block M (by omega)).trans g2
  have r4 := (hb3.block (M + 1) (by omega)).trans g3
  have bi := T3.below
  have f0 := T3.pos
  rw [← hA] at f0
  have hMw : M = w1.heap.size := HM2.out.2
  have hAM : A + 1 ≤ M := by omega
  have hMi : M + 2 ≤ Wi.heap.size := by have := hb3.size; omega
  have hAw : w.heap.size ≤ A := by omega
  have hwA : A ≤ w.heap.size := by omega
  rw [← HAw.out]
  clear hb2 g2 g3 T2 hb3 T3 hsz1 hA hMw HM2 hz2'
  gi_wp2_with fail
  refine rangeFunc_iter (by omega) (gf := g) (lb := lb) rfl hen hit
    (fun h1 h2 => h1.trans h2) (fun V l o o' hl ho _ _ => Fr.grown (Fr.refl _ V) (grownBy_putObj' V l o') (fun k e _ => by cases e; exact .inr hl)) (Below.refl _ _) (fun _ => rfl)
    (fun pre V => Rb w Wi A M (Wi.heap.size + 2 + 0) i k (cn i pre) pre V)
    (fun c pre V => False) ?hI ?hIx ⟨Fr.refl _ _, f0, ⟨none, 0, r3, World.ownsRow_nil _ _ _ _⟩, r4⟩ ?round ?done ?stop
  case hI => exact fun s A' B row hs hg hr => hs.grown (B := Wi.heap.size) (by omega) (by omega) bi.size hg hr
  case hIx => exact fun c s A' B row h hg hr => h
  case stop => exact fun D c pre V hD hpre hne hf hk => hf.elim
  case done =>
    rintro D V hD hB hk
    obtain ⟨K, hK⟩ : ∃ K, K = cn i (bls ls) := ⟨_, rfl⟩
    rw [← hK] at hB
    have HKK := Lib.hid hK
    obtain ⟨aa, cc, g1, hrow⟩ := hB.row
    obtain ⟨N, hN⟩ : ∃ N, N = (bls ls).length := ⟨_, rfl⟩
    rw [← hN] at g1 hrow
    have y1 : V.cell? ⟨M, 0, none⟩ = some (.slice aa N cc) := (cell_of_row V _ 0 _ _ _ g1).trans (by simp)
    have y2 : V.cell? ⟨M + 1, 0, none⟩ = some (.int .i64 K) := (cell_of_row V _ 0 _ _ _ hB.ix).trans (by simp)
    have f1 := fun z : Gr V => z.cell y1
    have f2 := fun z : Gr V => z.cell y2
    have HK := Lib.hid (And.intro hk (And.intro hrow (Kn.below bi hB.kn)))
    clear hB g1 hrow hN y1 y2 hk hK
    gi_wp2
    refine wpIn_wide.2 ?_
    refine wp_region_grow (by kernel_rfl) (by kernel_rfl) ?_
    repeat (go_big_quiet_step (fail))
    refine wpQuiet_nil ?_
    rintro V9 ⟨⟨_, hb9⟩, rfl⟩
    have hk9 := (hb9.block D (Array.getElem?_eq_some_iff.1 HK.out.1).1).trans HK.out.1
    have HB9 := Lib.hid hb9
    clear f1 f2 hb9
    gi_wp2
    refine ⟨by simp, .inl ⟨_, _, rfl, run_takeDeferred hk9, ?_⟩⟩
    obtain ⟨hk, hrow, hbel⟩ := HK.out
    have hrow9 := ownsRow_fr hrow (Fr.ofBelow HB9.out (fun _ => False)) (by simp)
    have hbel9 := hbel.trans (HB9.out.mono hbel.size)
    rw [← HKK.out]
    refine ⟨_, by simp [results, Try.results25, go_sem], aa, N, cc, rfl, ?_, hbel9.grown (grownBy_putObj' _ D _) hbel9.size (fun k e => by cases e; omega)⟩
    exact SrcV.ofOwn (hrow9.kept (grownBy_putObj' _ D _) (by
      cases hbo : (Value.slice aa N cc).ownBlock with
      | none => exact .inl rfl
      | some g =>
        refine .inr fun e => ?_
        obtain ⟨cs, hcs⟩ := own_row_cells hrow9 g hbo
        injection e with e
        subst e
        rw [hcs] at hk9
        cases hk9)) (fl_cells c2_one _)
  case round =>
    rintro l' pre x V0 ⟨rest, hpr⟩ hsz0 hi0'
    dsimp only [encr]
    have HI0 := Lib.hid hi0'
    have hpl : pre.length ≤ 1000000 := by have := congrArg List.length hpr; simp at this; omega
    clear hi0'
    gi_wp2
    refine ⟨Keep.refl _ _ _, Fr.refl _ _, HI0.out, ?_⟩
    rintro V2 hgr hl - hszV hB2
    obtain ⟨b, cc, g1, hrow⟩ := hB2.row
    obtain ⟨f, t⟩ := x
    have y2 : V2.cell? ⟨M, 0, none⟩ = some (.slice b pre.length cc) := (cell_of_row V2 _ 0 _ _ _ g1).trans (by simp)
    have hrow3 := ownsRow_fr hrow ((Fr.refl (fun _ => False) V2).alloc (.cells #[.int .i64 (f : Int), .int .i64 (t : Int)] EK)) (by simp)
    have hob : ∀ g, (Value.slice b pre.length cc).ownBlock = some g → Wi.heap.size + 2 + 0 ≤ g := fun g hg => (hrow.lt g hg).1
    have hst : ∀ V4 j, j < Wi.heap.size → j < V2.heap.size → (V2.alloc (.cells #[.int .i64 (f : Int), .int .i64 (t : Int)] EK)).grownBy V4 (Value.slice b pre.length cc).ownBlock → V4.heap[j]? = V2.heap[j]? := fun V4 j h1 h2 hg4 =>
      (hg4.block j (by simp; omega) (by intro e; have := hob _ e.symm; omega)).trans (Below.heap_alloc _ _ _ h2)
    have hix := hB2.ix
    have hps := hB2.pos
    have hlt1 := (Array.getElem?_eq_some_iff.1 g1).1
    have hlt2 := (Array.getElem?_eq_some_iff.1 hix).1
    have hlt3 := hps.lt
    have HO3 := Lib.hid hob
    have HST := Lib.hid (show ∀ V4, _ → _ from fun V4 hg4 => And.intro ((hst V4 M (by omega) hlt1 hg4).trans g1) (And.intro ((hst V4 (M + 1) (by omega) hlt2 hg4).trans hix) (show PosAt V4 A i k from (hst V4 A (by omega) hlt3 hg4).trans hps)))
    have HR3 := Lib.hid hrow3
    have HS3 := Lib.hid (srcv_blk V2 (f, t))
    have HP := Lib.hid hB2
    have hszz : Wi.heap.size + 2 + 0 ≤ V2.heap.size + 1 := by omega
    have HPR := Lib.hid hpr
    have hca := cn_add (c := i) pre (f, t)
    have hcl := cn_le (c := i) pre
    clear hB2 g1 hrow hrow3 hob hst hix hps hlt1 hlt2 hlt3 hgr hl HI0 hpr
    obtain ⟨K, hK⟩ : ∃ K, K = cn i pre := ⟨_, rfl⟩
    rw [← hK] at hca hcl HST HP
    obtain ⟨J, hJ⟩ : ∃ J, J = K + 1 := ⟨_, rfl⟩
    have hwJ : IntKind.i64.wrap ((K : Int) + 1) = (J : Int) := by rw [IntKind.wrap_i64]; omega
    have HK := Lib.hid (And.intro hK hJ)
    clear hK hcl
    by_cases hti : t ≤ i
    · rw [if_pos hti, ← hJ] at hca
      have HCA := Lib.hid hca
      have d0 : decide (t ≤ i) = true := decide_eq_true hti
      have d1 : decide ((t : Int) ≤ (i : Int)) = true := decide_eq_true (by omega)
      clear hca hJ hti
      gi_wp2_with (gi_at_builtin; go_must (refine wpListIn_append_srcv _ rfl _ _ TK rfl (Wi.heap.size + 2 + 0) EK i0 (.agg #[.int .i64 0, .int .i64 0]) 2 16 underK hi0 hz0 hz1 hz2 rfl (by decide) (.slice b pre.length cc) pre.length (fl c2 pre) rfl HR3.out (.slice (some ⟨V2.heap.size, 0, none⟩) 1 1) 1 (c2 (f, t)) rfl HS3.out (by simp only [maxLen]; omega) (by omega) (by simp; omega) ?_); intro ob oc V4 hown hg hnr; have y4 : V4.cell? ⟨M, 0, none⟩ = some (.slice b pre.length cc) := (cell_of_row V4 _ 0 _ _ _ (HST.out V4 hg).1).trans (by simp); have z4 : V4.frozen? ⟨M, 0, none⟩ = false := frozen_of_row V4 _ 0 _ _ (HST.out V4 hg).1; have n4 : V4.cell? ⟨M + 1, 0, none⟩ = some (.int .i64 K) := (cell_of_row V4 _ 0 _ _ _ (HST.out V4 hg).2.1).trans (by simp); have nz4 : V4.frozen? ⟨M + 1, 0, none⟩ = false := frozen_of_row V4 _ 0 _ _ (HST.out V4 hg).2.1; have q4 : V4.cell? ⟨A, 0, none⟩ = some (.int .i64 i) := (HST.out V4 hg).2.2.c0; have HO := Lib.hid (And.intro hown hg); clear hown hg hnr y2)
      obtain ⟨hown, hg⟩ := HO.out
      have hB2 := HP.out
      have g4 := (HST.out V4 hg).1
      have f4 : Fr (fun k => k = M ∨ (Value.slice b pre.length cc).ownBlock = some k) V2 V4 := Fr.grown ((Fr.refl _ V2).alloc _) hg (fun k e _ => .inr e)
      have f7 := f4.setCell (p := ⟨M, 0, none⟩) (fun _ => .inl rfl) (.slice ob (pre.length + 1) oc)
      have hS : ∀ j, (j = M ∨ (Value.slice b pre.length cc).ownBlock = some j) → j = M ∨ Wi.heap.size + 2 + 0 ≤ j := fun j e => e.imp id (HO3.out j)
      have hll : (pre ++ [(f, t)]).length = pre.length + 1 := by simp
      have hgot : Got TK EK 2 c2 M (Wi.heap.size + 2 + 0) (pre ++ [(f, t)]) (V4.setCell ⟨M, 0, none⟩ (.slice ob (pre.length + 1) oc)) := by
        refine ⟨ob, oc, ?_, ?_⟩
        · rw [hll]
          exact (heap_setCell_same V4 M 0 _ _ _ g4).trans (by simp)
        · rw [hll, fl_append, fl_one]
          exact ownsRow_fr hown ((Fr.refl (fun k => k = M) V4).setCell (p := ⟨M, 0, none⟩) (fun _ => rfl) _) (fun i hi e => by have := (hown.lt i hi).1; omega)
      have hR := hB2.app f7 hS (by omega) (by omega) (by omega) hgot
      have hK9 := Keep.ofFr (lo := Wi.heap.size) (hi := Wi.heap.size + 2 + 0) f7 (by omega) (fun j e => by
        rcases hS j e with e | e
        · exact .inl (by omega)
        · exact .inr e)
      have hKp : Fr (fun k => (k = M ∨ k = M + 1) ∨ Wi.heap.size ≤ k) V2 (V4.setCell ⟨M, 0, none⟩ (.slice ob (pre.length + 1) oc)) := f7.mono (fun j _ e => by
        rcases hS j e with e | e
        · exact .inl (.inl e)
        · exact .inr (by omega))
      have hi9 := hR.inc J (by omega) (by omega) (by omega)
      have hF9 : Fr (fun k => k = M + 1) (V4.setCell ⟨M, 0, none⟩ (.slice ob (pre.length + 1) oc)) ((V4.setCell ⟨M, 0, none⟩ (.slice ob (pre.length + 1) oc)).setCell ⟨M + 1, 0, none⟩ (.int .i64 (J : Int))) := (Fr.refl (fun k => k = M + 1) _).setCell (p := ⟨M + 1, 0, none⟩) (fun _ => rfl) _
      refine ⟨hK9.trans (Keep.ofFr hF9 (by have := hK9.size; omega) (fun k e => .inl (by omega))), hKp.trans (hF9.mono (fun k _ e => .inl (.inr e))), ?_⟩
      show Rb w Wi A M (Wi.heap.size + 2 + 0) i k (cn i (pre ++ [(f, t)])) (pre ++ [(f, t)]) _
      rw [HCA.out]
      exact hi9
    · rw [if_neg hti, Nat.add_zero] at hca
      have HCA := Lib.hid hca
      have d0 : decide (t ≤ i) = false := decide_eq_false hti
      have d1 : decide ((t : Int) ≤ (i : Int)) = false := decide_eq_false (by omega)
      clear hca hJ hti
      gi_wp2_with (gi_at_builtin; go_must (refine wpListIn_append_srcv _ rfl _ _ TK rfl (Wi.heap.size + 2 + 0) EK i0 (.agg #[.int .i64 0, .int .i64 0]) 2 16 underK hi0 hz0 hz1 hz2 rfl (by decide) (.slice b pre.length cc) pre.length (fl c2 pre) rfl HR3.out (.slice (some ⟨V2.heap.size, 0, none⟩) 1 1) 1 (c2 (f, t)) rfl HS3.out (by simp only [maxLen]; omega) (by omega) (by simp; omega) ?_); intro ob oc V4 hown hg hnr; have y4 : V4.cell? ⟨M, 0, none⟩ = some (.slice b pre.length cc) := (cell_of_row V4 _ 0 _ _ _ (HST.out V4 hg).1).trans (by simp); have z4 : V4.frozen? ⟨M, 0, none⟩ = false := frozen_of_row V4 _ 0 _ _ (HST.out V4 hg).1; have n4 : V4.cell? ⟨M + 1, 0, none⟩ = some (.int .i64 K) := (cell_of_row V4 _ 0 _ _ _ (HST.out V4 hg).2.1).trans (by simp); have nz4 : V4.frozen? ⟨M + 1, 0, none⟩ = false := frozen_of_row V4 _ 0 _ _ (HST.out V4 hg).2.1; have q4 : V4.cell? ⟨A, 0, none⟩ = some (.int .i64 i) := (HST.out V4 hg).2.2.c0; have HO := Lib.hid (And.intro hown hg); clear hown hg hnr y2)
      obtain ⟨hown, hg⟩ := HO.out
      have hB2 := HP.out
      have g4 := (HST.out V4 hg).1
      have f4 : Fr (fun k => k = M ∨ (Value.slice b pre.length cc).ownBlock = some k) V2 V4 := Fr.grown ((Fr.refl _ V2).alloc _) hg (fun k e _ => .inr e)
      have f7 := f4.setCell (p := ⟨M, 0, none⟩) (fun _ => .inl rfl) (.slice ob (pre.length + 1) oc)
      have hS : ∀ j, (j = M ∨ (Value.slice b pre.length cc).ownBlock = some j) → j = M ∨ Wi.heap.size + 2 + 0 ≤ j := fun j e => e.imp id (HO3.out j)
      have hll : (pre ++ [(f, t)]).length = pre.length + 1 := by simp
      have hgot : Got TK EK 2 c2 M (Wi.heap.size + 2 + 0) (pre ++ [(f, t)]) (V4.setCell ⟨M, 0, none⟩ (.slice ob (pre.length + 1) oc)) := by
        refine ⟨ob, oc, ?_, ?_⟩
        · rw [hll]
          exact (heap_setCell_same V4 M 0 _ _ _ g4).trans (by simp)
        · rw [hll, fl_append, fl_one]
          exact ownsRow_fr hown ((Fr.refl (fun k => k = M) V4).setCell (p := ⟨M, 0, none⟩) (fun _ => rfl) _) (fun i hi e => by have := (hown.lt i hi).1; omega)
      have hR := hB2.app f7 hS (by omega) (by omega) (by omega) hgot
      have hK9 := Keep.ofFr (lo := Wi.heap.size) (hi := Wi.heap.size + 2 + 0) f7 (by omega) (fun j e => by
        rcases hS j e with e | e
        · exact .inl (by omega)
        · exact .inr e)
      have hKp : Fr (fun k => (k = M ∨ k = M + 1) ∨ Wi.heap.size ≤ k) V2 (V4.setCell ⟨M, 0, none⟩ (.slice ob (pre.length + 1) oc)) := f7.mono (fun j _ e => by
        rcases hS j e with e | e
        · exact .inl (.inl e)
        · exact .inr (by omega))
      refine ⟨hK9, hKp, ?_⟩
      show Rb w Wi A M (Wi.heap.size + 2 + 0) i k (cn i (pre ++ [(f, t)])) (pre ++ [(f, t)]) _
      rw [HCA.out]
      exact hR
end Go.Proofs.Ytnngcminomooeaa.Po
