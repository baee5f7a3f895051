/-
  Package quoteobj: the pair of a place (pairOf).
-/
import Derived.Test.YtfcedllgidhnfaaYb
import Derived.Test.YtfcedllgidhnfaaYi
import Derived.Test.YtfcedllgidhnfaaRf
import Derived.Test.YtfcedllgidhnfaaSo
set_option linter.unusedVariables false
set_option linter.unusedSimpArgs false
set_option maxRecDepth 100000
namespace Go.Proofs.Ytfcedllgidhnfaa.Wo
open Go Go.RowKit Go.Proofs.Ytfcedllgidhnfaa.Vk Go.Proofs.Ytfcedllgidhnfaa.Str Go.Proofs.Ytfcedllgidhnfaa.Ln Go.Proofs.Ytfcedllgidhnfaa.Cl Go.Proofs.Ytfcedllgidhnfaa.Mv Go.Shelf
attribute [local go_sem] Oper.semAt_some

/-- Two numbers and a bool, each handed back out of its variable. -/
theorem results_iib {fn : Func} {p q u : Tmp} (h : fn.results = #[.cell p 3, .cell q 3, .cell u 4]) (tmps : Array Value) (w : World) (g g' g'' : Nat) (x y : Int) (ok : Bool)
    (hp : tmps.getD p undef = .pointer (some ⟨g, 0, none⟩)) (hq : tmps.getD q undef = .pointer (some ⟨g', 0, none⟩)) (hu : tmps.getD u undef = .pointer (some ⟨g'', 0, none⟩))
    (hg : w.cell? ⟨g, 0, none⟩ = some (.int .i64 x)) (hg' : w.cell? ⟨g', 0, none⟩ = some (.int .i64 y)) (hc : w.cell? ⟨g'', 0, none⟩ = some (.bool ok)) :
    (results fn tmps).run Try.prog w = .ok (.tuple #[.int .i64 x, .int .i64 y, .bool ok]) w := by
  have hp' : tmps[p]?.getD undef = .pointer (some ⟨g, 0, none⟩) := by simpa using hp
  have hq' : tmps[q]?.getD undef = .pointer (some ⟨g', 0, none⟩) := by simpa using hq
  have hu' : tmps[u]?.getD undef = .pointer (some ⟨g'', 0, none⟩) := by simpa using hu
  simp only [results, h]
  go_simp
theorem hlt {V : World} {k : Nat} {o : Obj} (h : V.heap[k]? = some o) : k < V.heap.size := (Array.getElem?_eq_some_iff.1 h).1
/-- The place at A, the three variables of the answer behind it. -/
structure T3 (V : World) (A : Nat) (l c x y : Int) (o : Bool) : Prop where
  pos : PosAt V A l c
  a : V.heap[A + 1]? = some (.cells #[.int .i64 x] 3 (0, 0))
  b : V.heap[A + 2]? = some (.cells #[.int .i64 y] 3 (0, 0))
  c : V.heap[A + 3]? = some (.cells #[.bool o] 4 (0, 0))
def put3 (W : World) (A : Nat) (x y : Int) (o : Bool) : World := ((W.setCell ⟨A + 1, 0, none⟩ (.int .i64 x)).setCell ⟨A + 2, 0, none⟩ (.int .i64 y)).setCell ⟨A + 3, 0, none⟩ (.bool o)
section
variable {V V' : World} {A B : Nat} {l c x y x' y' : Int} {o o' : Bool}
theorem T3.same (h : T3 V A l c x y o) (hk : ∀ k, k ≤ A + 3 → V'.heap[k]? = V.heap[k]?) : T3 V' A l c x y o :=
  ⟨(hk _ (by omega)).trans h.pos, (hk _ (by omega)).trans h.a, (hk _ (by omega)).trans h.b, (hk _ (by omega)).trans h.c⟩
theorem T3.below (h : T3 V A l c x y o) (hb : Below V.heap.size V V') : T3 V' A l c x y o :=
  ⟨h.pos.below hb h.pos.lt, (hb.block _ (hlt h.a)).trans h.a, (hb.block _ (hlt h.b)).trans h.b, (hb.block _ (hlt h.c)).trans h.c⟩
theorem T3.grown {row : Option Nat} (h : T3 V A l c x y o) (hA : A + 4 ≤ B) (hg : V.grownBy V' row) (hr : ∀ r, row = some r → B ≤ r ∧ ∃ o : Obj, V.heap[r]? = some o ∧ o.isCells = false) : T3 V' A l c x y o := by
  have hk : ∀ k, k < B → k < V.heap.size → V'.heap[k]? = V.heap[k]? := fun k hk hkA => hg.block k hkA (fun e => by have := (hr _ e.symm).1; omega)
  exact ⟨(hk _ (by omega) h.pos.lt).trans h.pos, (hk _ (by omega) (hlt h.a)).trans h.a, (hk _ (by omega) (hlt h.b)).trans h.b, (hk _ (by omega) (hlt h.c)).trans h.c⟩
theorem put3_other {k : Nat} (h : k ≠ A + 1) (h2 : k ≠ A + 2) (h3 : k ≠ A + 3) : (put3 V A x y o).heap[k]? = V.heap[k]? :=
  (Below.heap_setCell _ _ _ _ h3).trans ((Below.heap_setCell _ _ _ _ h2).trans (Below.heap_setCell _ _ _ _ h))
theorem T3.put (h : T3 V A l c x y o) (x' y' : Int) (o' : Bool) : T3 (put3 V A x' y' o') A l c x' y' o' :=
  ⟨(put3_other (by omega) (by omega) (by omega)).trans h.pos,
   (Below.heap_setCell _ _ _ _ (show A + 1 ≠ A + 3 by omega)).trans ((Below.heap_setCell _ _ _ _ (show A + 1 ≠ A + 2 by omega)).trans ((heap_setCell_same V (A + 1) 0 _ _ _ h.a).trans (by simp))),
   (Below.heap_setCell _ _ _ _ (show A + 2 ≠ A + 3 by omega)).trans ((heap_setCell_same _ (A + 2) 0 _ _ _ ((Below.heap_setCell _ _ _ _ (show A + 2 ≠ A + 1 by omega)).trans h.b)).trans (by simp)),
   (heap_setCell_same _ (A + 3) 0 _ _ _ ((Below.heap_setCell _ _ _ _ (show A + 3 ≠ A + 2 by omega)).trans ((Below.heap_setCell _ _ _ _ (show A + 3 ≠ A + 1 by omega)).trans h.c))).trans (by simp)⟩
theorem put3_below {W : World} (h : Below B W V) (hA : B ≤ A) (x y : Int) (o : Bool) : Below B W (put3 V A x y o) :=
  ((h.setCell (p := ⟨A + 1, 0, none⟩) (by simp; omega) _).setCell (p := ⟨A + 2, 0, none⟩) (by simp; omega) _).setCell (p := ⟨A + 3, 0, none⟩) (by simp; omega) _
theorem T3.ca (h : T3 V A l c x y o) : V.cell? ⟨A + 1, 0, none⟩ = some (.int .i64 x) := (cell_of_row V _ 0 _ _ _ h.a).trans (by simp)
theorem T3.cb (h : T3 V A l c x y o) : V.cell? ⟨A + 2, 0, none⟩ = some (.int .i64 y) := (cell_of_row V _ 0 _ _ _ h.b).trans (by simp)
theorem T3.cc (h : T3 V A l c x y o) : V.cell? ⟨A + 3, 0, none⟩ = some (.bool o) := (cell_of_row V _ 0 _ _ _ h.c).trans (by simp)
theorem T3.za (h : T3 V A l c x y o) : V.frozen? ⟨A + 1, 0, none⟩ = false := frozen_of_row V _ 0 _ _ h.a
theorem T3.zb (h : T3 V A l c x y o) : V.frozen? ⟨A + 2, 0, none⟩ = false := frozen_of_row V _ 0 _ _ h.b
theorem T3.zc (h : T3 V A l c x y o) : V.frozen? ⟨A + 3, 0, none⟩ = false := frozen_of_row V _ 0 _ _ h.c
end
/-- What pairOf answers. -/
def pvV : Option RN → Value
  | some (a, b) => .tuple #[.int .i64 a, .int .i64 b, .bool true]
  | none => .tuple #[.int .i64 0, .int .i64 0, .bool false]

set_option maxHeartbeats 8000000 in
theorem pairof_any (a : Option Addr) (n c' : Nat) (ls : List ByteArray) (l c q : Int) (w : World) (h : Ss w a n c' ls) (hs : ∀ s ∈ ls, s.size ≤ 140737488355328) :
    Calls Try.prog 18 #[.slice a n c', .agg #[.int .i64 l, .int .i64 c], .int .u8 q] w fun e w' => e = .returned (pvV (pof ls q l c)) ∧ Below w.heap.size w w' := by
  have hlen := h.length
  have hn := h.le63
  obtain ⟨X, hX⟩ : ∃ X, X = (((w.alloc (.cells #[.int .i64 l, .int .i64 c] 34)).alloc (.cells #[.int .i64 0] 3)).alloc (.cells #[.int .i64 0] 3)).alloc (.cells #[.bool false] 4) := ⟨_, rfl⟩
  obtain ⟨A, hA⟩ : ∃ A, A = w.heap.size := ⟨_, rfl⟩
  have hT : T3 X A l c 0 0 false ∧ Below w.heap.size w X := by
    obtain ⟨h1, h2, h3, h4, h5⟩ := three_rows w (.cells #[.int .i64 l, .int .i64 c] 34) (.cells #[.int .i64 0] 3) (.cells #[.int .i64 0] 3)
    generalize ((w.alloc (.cells #[.int .i64 l, .int .i64 c] 34)).alloc (.cells #[.int .i64 0] 3)).alloc (.cells #[.int .i64 0] 3) = Y at *
    rw [hX, hA]
    refine ⟨⟨?_, ?_, ?_, ?_⟩, h5.alloc (by omega) _⟩
    · exact (Below.heap_alloc _ _ _ (by omega)).trans h2
    · exact (Below.heap_alloc _ _ _ (by omega)).trans h3
    · exact (Below.heap_alloc _ _ _ (by omega)).trans h4
    · rw [← h1]; exact heap_alloc_new Y _
  obtain ⟨hT, hbX⟩ := hT
  have HX := Lib.hid (And.intro hX hA)
  have hAw : w.heap.size ≤ A := by omega
  have hin := inside_any a n c' ls l c X (SrcV.below h hbX) hs
  have p0 := hT.pos.c0
  have p1 := hT.pos.c1
  have HT := Lib.hid (And.intro hT hbX)
  clear hT hbX hX hA
  by_cases hp : On ls l c
  rotate_left
  · have hr : pof ls q l c = none := pof_no hp
    rw [hr]
    rw [decide_eq_false hp] at hin
    clear hr hp h
    go_enter Try.func18, Try.ntmps18
    go_wp2_with fail
    rw [← HX.out.1, ← HX.out.2]
    refine hin.mono ?_
    rintro e w1 ⟨rfl, hb1⟩
    have T1 := HT.out.1.below hb1
    have H1 := Lib.hid (And.intro (T1.put 0 0 false) (put3_below (below_on HT.out.2 hb1) hAw 0 0 false))
    have za := T1.za
    have zb := T1.zb
    have zc := T1.zc
    have ca := T1.ca
    have cb := T1.cb
    have cc := T1.cc
    clear hin hb1 p0 p1 T1
    go_wp2
    exact bodyPost_ret (results_iib rfl _ _ (A + 1) (A + 2) (A + 3) 0 0 false rfl rfl rfl H1.out.1.ca H1.out.1.cb H1.out.1.cc) rfl ⟨rfl, H1.out.2⟩
  obtain ⟨i, k, rfl, rfl, hi, hik⟩ := hp.nat
  have hr : pof ls q i k = fnd (qs (lineAt ls i) q) k := pof_yes hp
  rw [hr]
  rw [decide_eq_true hp] at hin
  obtain ⟨r, hrr⟩ : ∃ r, r = fnd (qs (lineAt ls i) q) k := ⟨_, rfl⟩
  rw [← hrr]
  have HR := Lib.hid hrr
  obtain ⟨ba, o, rfl, hcx, hnc, _⟩ := h.read i (by omega)
  have hlt' := lineAt_get hi
  have hstz := hs (ls[i]'hi) (List.getElem_mem hi)
  rw [← hlt'] at hcx hstz
  obtain ⟨st, hst⟩ : ∃ st, st = lineAt ls i := ⟨_, rfl⟩
  rw [← hst] at hcx hstz HR
  have hin2 : i < n := by omega
  clear hr hrr hp hik hlt' hst hs h hi
  refine (callsIn_wide (n := 9)).1 ?_
  refine callsIn_of_wp_marks Try.func18 rfl trivial ?_ rfl
  simp only [Try.ntmps18, List.size_toArray, List.length_cons, List.length_nil, Nat.reduceAdd, Nat.reduceSub, Array.replicate_succ, Array.replicate_zero, List.push_toArray, List.append_toArray, List.nil_append, List.cons_append]
  refine wpIn_mono (Q := noPanic _) ?_ (noPanic_out _)
  gi_wp2_with fail
  refine ⟨trivial, ?_⟩
  rw [← HX.out.1, ← HX.out.2]
  refine (callsIn_wide.2 hin).mono ?_
  rintro e w1 ⟨rfl, hb1⟩
  have T1 := HT.out.1.below hb1
  have hb01 := below_on HT.out.2 hb1
  have hcx := cell_later hb01 hcx
  clear p0 p1 hin
  have p0 := T1.pos.c0
  have p1 := T1.pos.c1
  have hpt := pairs_tells st q w1 hstz
  have H1 := Lib.hid (And.intro T1 hb01)
  clear T1 hb01 hb1 HT HX
  gi_wp2_with fail
  refine ⟨trivial, ?_⟩
  refine (callsIn_wide.2 hpt).mono ?_
  rintro e Wi ⟨v, rfl, ht, hb2⟩
  have T2 := H1.out.1.below hb2
  have bi := below_on H1.out.2 hb2
  have HT2 := Lib.hid T2
  obtain ⟨g, lb, rfl, hen, hit⟩ := ht
  have hAi : A + 4 ≤ Wi.heap.size := hlt T2.c
  clear hpt hcx p0 p1 H1 T2 hb2
  generalize qs st q = xs at *
  gi_wp2_with fail
  refine rangeFunc_iter (by omega) (gf := g) (lb := lb) rfl hen hit
    (fun h1 h2 => h1.trans h2) (knB (Nat.le_refl _)) (Below.refl _ _) (fun _ => rfl)
    (fun pre V => Kn w Wi V ∧ T3 V A i k 0 0 false ∧ ∀ y ∈ pre, y.2 < k)
    (fun c pre V => c = .ret ∧ Kn w Wi V ∧ ∃ p0 x, pre = p0 ++ [x] ∧ (∀ y ∈ p0, y.2 < k) ∧ k ≤ x.2 ∧ T3 V A i k x.1 x.2 true) ?hI ?hIx ⟨Fr.refl _ _, HT2.out, fun y hy => by cases hy⟩ ?round ?done ?stop
  case hI => exact fun s A' B row hs hg hr => ⟨own_kn (α := RN) bi.size s A' B row hs.1 hg hr, hs.2.1.grown (B := Wi.heap.size) hAi hg hr, hs.2.2⟩
  case hIx =>
    rintro c s A' B row ⟨h1, h2, p0, x, h3, h4, h5, h6⟩ hg hr
    exact ⟨h1, own_kn (α := RN) bi.size s A' B row h2 hg hr, p0, x, h3, h4, h5, h6.grown (B := Wi.heap.size) hAi hg hr⟩
  case stop =>
    rintro D c pre V hD ⟨rest, hpre⟩ hne ⟨rfl, hF, p0, x, rfl, hy, hx, hT3⟩ hk
    have hrq : r = some x := by
      rw [HR.out, ← hpre]
      rw [List.append_assoc]
      exact fnd_here hy hx
    have HRQ := Lib.hid hrq
    have HN := Lib.hid (And.intro hF hT3)
    clear hF hT3 hrq hpre hne hy hx
    gi_wp2
    refine ⟨by simp, .inl ⟨_, _, rfl, run_takeDeferred hk, ?_⟩⟩
    obtain ⟨hF, hT3⟩ := HN.out
    have hT4 : T3 (V.putObj D (.deferred none)) A i k x.1 x.2 true := hT3.same fun k hk => World.putObj_heap_other (by omega)
    refine ⟨_, results_iib rfl _ _ (A + 1) (A + 2) (A + 3) x.1 x.2 true rfl rfl rfl hT4.ca hT4.cb hT4.cc, by rw [HRQ.out]; rfl, ?_⟩
    exact (Kn.below bi hF).grown (grownBy_putObj' _ D _) (Kn.below bi hF).size (fun k e => by cases e; omega)
  case done =>
    rintro D V hD ⟨hF, hT3, hy⟩ hk
    have hrq : r = none := by rw [HR.out]; exact fnd_none hy
    have HRQ := Lib.hid hrq
    have za := hT3.za
    have zb := hT3.zb
    have zc := hT3.zc
    have ca := hT3.ca
    have cb := hT3.cb
    have cc := hT3.cc
    have H3 := Lib.hid (And.intro (hT3.put 0 0 false) (And.intro (put3_below (Kn.below bi hF) hAw 0 0 false) ((put3_other (x := 0) (y := 0) (o := false) (A := A) (k := D) (by omega) (by omega) (by omega)).trans hk)))
    clear hF hT3 hy hrq hk
    gi_wp2
    obtain ⟨hT3, hB3, hk⟩ := H3.out
    refine ⟨by simp, .inl ⟨_, _, rfl, run_takeDeferred hk, ?_⟩⟩
    have hT4 : T3 ((put3 V A 0 0 false).putObj D (.deferred none)) A i k 0 0 false := hT3.same fun k hk => World.putObj_heap_other (by omega)
    refine ⟨_, results_iib rfl _ _ (A + 1) (A + 2) (A + 3) 0 0 false rfl rfl rfl hT4.ca hT4.cb hT4.cc, by rw [HRQ.out]; rfl, ?_⟩
    exact hB3.grown (grownBy_putObj' _ D _) hB3.size (fun k e => by cases e; omega)
  case round =>
    rintro l' pre x V0 ⟨rest, hpr⟩ hsz0 hi0
    dsimp only [encr]
    have HI0 := Lib.hid hi0
    clear hi0
    gi_wp2
    refine ⟨Keep.refl _ _ _, Fr.refl _ _, HI0.out, ?_⟩
    rintro V hgr hl - hszV ⟨hF, hT3, hy⟩
    have p0 := hT3.pos.c0
    have p1 := hT3.pos.c1
    have za := hT3.za
    have zb := hT3.zb
    have zc := hT3.zc
    have ca := hT3.ca
    have cb := hT3.cb
    have cc := hT3.cc
    have HV := Lib.hid (And.intro hF (And.intro hT3 hy))
    clear hgr hl hF hT3 hy HI0
    by_cases hkx : k ≤ x.2
    · have d0 : decide (k ≤ x.2) = true := decide_eq_true hkx
      have d1 : decide ((k : Int) ≤ (x.2 : Int)) = true := decide_eq_true (by omega)
      have HK := Lib.hid hkx
      clear hkx
      gi_wp2
      obtain ⟨hF, hT3, hy⟩ := HV.out
      have f3 : Fr (fun j => j = A + 1 ∨ j = A + 2 ∨ j = A + 3) V (put3 V A x.1 x.2 true) := (((Fr.refl _ V).setCell (p := ⟨A + 1, 0, none⟩) (fun _ => .inl rfl) _).setCell (p := ⟨A + 2, 0, none⟩) (fun _ => .inr (.inl rfl)) _).setCell (p := ⟨A + 3, 0, none⟩) (fun _ => .inr (.inr rfl)) _
      refine ⟨?_, rfl, ?_, pre, x, rfl, hy, HK.out, hT3.put x.1 x.2 true⟩
      · exact Keep.ofFr f3 (by omega) (fun j e => .inl (by omega))
      · exact hF.trans (f3.mono (fun j _ e => by show w.heap.size ≤ j; omega))
    · have d0 : decide (k ≤ x.2) = false := decide_eq_false hkx
      have d1 : decide ((k : Int) ≤ (x.2 : Int)) = false := decide_eq_false (by omega)
      gi_wp2
      refine ⟨Keep.refl _ _ _, Fr.refl _ _, HV.out.1, HV.out.2.1, fun y hy => ?_⟩
      rcases List.mem_append.1 hy with hy | hy
      · exact HV.out.2.2 y hy
      · obtain rfl : y = x := by simpa using hy
        omega
end Go.Proofs.Ytfcedllgidhnfaa.Wo
