/-
  Package pair: Enclosing.
-/
import Derived.Test.YtbimblfkkmpieaaJr
set_option linter.unusedVariables false
set_option linter.unusedSimpArgs false
set_option maxRecDepth 100000
namespace Go.Proofs.Ytbimblfkkmpieaa.Pr
open Go Go.RowKit Go.Proofs.Ytbimblfkkmpieaa.Vk Go.Proofs.Ytbimblfkkmpieaa.Str Go.Proofs.Ytbimblfkkmpieaa.Ln Go.Proofs.Ytbimblfkkmpieaa.Cl Go.Proofs.Ytbimblfkkmpieaa.Mv Go.Proofs.Ytbimblfkkmpieaa.Wd Go.Shelf
attribute [local go_sem] Oper.semAt_some

/-- What Enclosing answers. -/
def eW : Option PP → PP × Bool
  | some x => (x, true)
  | none => (((0, 0), (0, 0)), false)
abbrev eU (x : PP × Bool) : Value := .tuple #[.agg #[.int .i64 x.1.1.1, .int .i64 x.1.1.2], .agg #[.int .i64 x.1.2.1, .int .i64 x.1.2.2], .bool x.2]
theorem results_ppb {fn : Func} {p q r : Tmp} (h : fn.results = #[.cell p 24, .cell q 24, .cell r 4]) (tmps : Array Value) (w : World) (g g' g2 : Nat) (l c l' c' : Int) (ok : Bool)
    (hp : tmps.getD p undef = .pointer (some ⟨g, 0, none⟩)) (hq : tmps.getD q undef = .pointer (some ⟨g', 0, none⟩)) (hr : tmps.getD r undef = .pointer (some ⟨g2, 0, none⟩)) (hg : PosAt w g l c) (hg' : PosAt w g' l' c') (hc : w.cell? ⟨g2, 0, none⟩ = some (.bool ok)) :
    (results fn tmps).run Try.prog w = .ok (.tuple #[.agg #[.int .i64 l, .int .i64 c], .agg #[.int .i64 l', .int .i64 c'], .bool ok]) w := by
  have hp' : tmps[p]?.getD undef = .pointer (some ⟨g, 0, none⟩) := by simpa using hp
  have hq' : tmps[q]?.getD undef = .pointer (some ⟨g', 0, none⟩) := by simpa using hq
  have hr' : tmps[r]?.getD undef = .pointer (some ⟨g2, 0, none⟩) := by simpa using hr
  have h0 := hg.c0
  have h1 := hg.c1
  have h2 := hg'.c0
  have h3 := hg'.c1
  clear hg hg'
  simp only [results, h]
  go_simp
/-- The three variables of the answer written anew. -/
def put6 (V : World) (A : Nat) (a b c d : Int) (ok : Bool) : World :=
  ((((V.setCell ⟨A + 1, 0, none⟩ (.int .i64 a)).setCell ⟨A + 1, 1, none⟩ (.int .i64 b)).setCell ⟨A + 2, 0, none⟩ (.int .i64 c)).setCell ⟨A + 2, 1, none⟩ (.int .i64 d)).setCell ⟨A + 3, 0, none⟩ (.bool ok)
theorem put6_fr (V : World) (A : Nat) (a b c d : Int) (ok : Bool) : Fr (fun k => A + 1 ≤ k ∧ k ≤ A + 3) V (put6 V A a b c d ok) :=
  (((((Fr.refl (fun k => A + 1 ≤ k ∧ k ≤ A + 3) V).setCell (p := ⟨A + 1, 0, none⟩) (fun _ => by simp) _).setCell (p := ⟨A + 1, 1, none⟩) (fun _ => by simp) _).setCell (p := ⟨A + 2, 0, none⟩) (fun _ => by simp) _).setCell (p := ⟨A + 2, 1, none⟩) (fun _ => by simp) _).setCell (p := ⟨A + 3, 0, none⟩) (fun _ => by simp) _
theorem put6_at {V : World} {A : Nat} {x y x' y' : Int} {q : Bool} (h1 : PosAt V (A + 1) x y) (h2 : PosAt V (A + 2) x' y') (h3 : V.heap[A + 3]? = some (.cells #[.bool q] 4 (0, 0))) (a b c d : Int) (ok : Bool) :
    PosAt (put6 V A a b c d ok) (A + 1) a b ∧ PosAt (put6 V A a b c d ok) (A + 2) c d ∧ (put6 V A a b c d ok).heap[A + 3]? = some (.cells #[.bool ok] 4 (0, 0)) := by
  refine ⟨?_, ?_, ?_⟩
  · exact PosAt.other (PosAt.other (PosAt.other (So.set2 h1) (by omega)) (by omega)) (by omega)
  · exact PosAt.other (So.set2 (((h2.other (by omega)).other (by omega)))) (by omega)
  · exact (heap_setCell_same _ (A + 3) 0 _ _ (.bool ok) ((So.set2_other (by omega)).trans ((So.set2_other (by omega)).trans h3))).trans (by simp)
theorem pos_drew {w : World} {g : Nat} {l c : Int} (h : PosAt w g l c) : PosAt w.drew g l c := h
theorem heap_drew {w : World} {g : Nat} {o : Obj} (h : w.heap[g]? = some o) : w.drew.heap[g]? = some o := h
/-- What stands between the rounds. -/
structure Et (w Wi : World) (A M : Nat) (p : P2) (left : Nat) (V : World) : Prop where
  kn : Kn w Wi V
  pos : PosAt V A p.1 p.2
  r1 : PosAt V (A + 1) 0 0
  r2 : PosAt V (A + 2) 0 0
  bl : V.heap[A + 3]? = some (.cells #[.bool false] 4 (0, 0))
  lf : V.heap[M]? = some (.cells #[.int .i64 (left : Int)] 3 (0, 0))
theorem Et.below {w Wi : World} {A M B : Nat} {p : P2} {left : Nat} {V V' : World} (h : Et w Wi A M p left V) (hA : A + 4 ≤ B) (hM : M < B) (hw : w.heap.size ≤ B) (hb : Below B V V') : Et w Wi A M p left V' :=
  ⟨h.kn.trans ⟨hb.os, hb.tape, hb.output, hb.size, fun k _ hn => hb.block k (by have : ¬ w.heap.size ≤ k := hn; omega)⟩, (hb.block _ (by omega)).trans h.pos, (hb.block _ (by omega)).trans h.r1, (hb.block _ (by omega)).trans h.r2, (hb.block _ (by omega)).trans h.bl, (hb.block _ hM).trans h.lf⟩
theorem Et.set {w Wi : World} {A M : Nat} {p : P2} {left : Nat} {V : World} (h : Et w Wi A M p left V) (hA : A + 4 ≤ M) (hB : w.heap.size ≤ M) (r : Nat) : Et w Wi A M p r (V.setCell ⟨M, 0, none⟩ (.int .i64 r)) :=
  ⟨h.kn.setCell (p := ⟨M, 0, none⟩) (fun _ => hB) _, h.pos.other (by omega), h.r1.other (by omega), h.r2.other (by omega), (Below.heap_setCell _ _ _ _ (by simp; omega)).trans h.bl, (heap_setCell_same _ M 0 _ _ _ h.lf).trans (by simp)⟩
/-- The answer stands in its variables. -/
def EtX (A : Nat) (p : P2) (K : Nat) (pre : List PP) (V : World) : Prop :=
  ∃ (p0 : List PP) (x : PP), pre = p0 ++ [x] ∧ (enc p p0).length + 1 = K ∧ eb p x = true ∧ PosAt V (A + 1) x.1.1 x.1.2 ∧ PosAt V (A + 2) x.2.1 x.2.2 ∧ V.heap[A + 3]? = some (.cells #[.bool true] 4 (0, 0))
theorem enc_no {p : P2} {pre : List PP} {x : PP} (h : eb p x = false) : enc p (pre ++ [x]) = enc p pre := by
  unfold enc; rw [List.filter_append, List.filter_cons_of_neg (by rw [h]; simp)]; simp
theorem enc_yes {p : P2} {pre : List PP} {x : PP} (h : eb p x = true) : enc p (pre ++ [x]) = enc p pre ++ [x] := by
  unfold enc; rw [List.filter_append, List.filter_cons_of_pos h]; rfl
theorem enc_at {p : P2} {xs pre rest : List PP} {x : PP} (h : xs = pre ++ x :: rest) (hx : eb p x = true) : ∃ r, enc p xs = enc p pre ++ x :: r := by
  subst h
  exact ⟨rest.filter (eb p), by unfold enc; rw [List.filter_append, List.filter_cons_of_pos hx]⟩

theorem enV_cap {ls : List ByteArray} {l c : Int} {b m K : Nat} (hK : K = min m 1073741824) (hm : 1 ≤ m) (htz : tz ls ≤ 900000) : (enL ls l c b)[K - 1]? = (enL ls l c b)[m - 1]? := by
  have := enL_length ls l c b
  by_cases h : m ≤ 1073741824
  · rw [hK, Nat.min_eq_left h]
  · rw [List.getElem?_eq_none (by omega), List.getElem?_eq_none (by omega)]

set_option maxHeartbeats 16000000 in
theorem encl_any (a : Option Addr) (n c' : Nat) (ls : List ByteArray) (l c : Int) (b : Nat) (nn : Int) (w : World) (h : Ss w a n c' ls) (hs : ∀ s ∈ ls, s.size ≤ 140737488355328) (hn6 : n ≤ 1000000) (htz : tz ls ≤ 900000) (hnn : nn ≤ 9223372036854775807) :
    Calls Try.prog 23 #[.slice a n c', .agg #[.int .i64 l, .int .i64 c], .int .u8 b, .int .i64 nn] w fun e w' => e = .returned (eU (eW (enV ls l c b nn))) ∧ Below w.heap.size w w' := by
  have hlen := h.length
  have hn := h.le63
  obtain ⟨o, ho⟩ : ∃ o, o = kO b := ⟨_, rfl⟩
  obtain ⟨s, hss⟩ : ∃ s, s = kS b := ⟨_, rfl⟩
  obtain ⟨op, hop⟩ : ∃ op, op = kB b := ⟨_, rfl⟩
  obtain ⟨q, hq⟩ : ∃ q, q = kI b := ⟨_, rfl⟩
  have hkd : ∀ W, Calls Try.prog 30 #[.int .u8 b] W fun e w' => e = .returned (.tuple #[.int .u8 o, .int .u8 s, .bool op, .bool q]) ∧ W = w' := fun W => by
    have := kind_any b W
    unfold kV at this
    rw [← ho, ← hss, ← hop, ← hq] at this
    exact this
  obtain ⟨X, hX⟩ : ∃ X, X = (((w.alloc (.cells #[.int .i64 l, .int .i64 c] 24)).alloc (.cells #[.int .i64 0, .int .i64 0] 24)).alloc (.cells #[.int .i64 0, .int .i64 0] 24)).alloc (.cells #[.bool false] 4) := ⟨_, rfl⟩
  obtain ⟨hsX, e0, e1, e2, e3, hbX⟩ := So.four_rows w (.cells #[.int .i64 l, .int .i64 c] 24) (.cells #[.int .i64 0, .int .i64 0] 24) (.cells #[.int .i64 0, .int .i64 0] 24) (.cells #[.bool false] 4)
  rw [← hX] at hsX e0 e1 e2 e3 hbX
  obtain ⟨A, hA⟩ : ∃ A, A = w.heap.size := ⟨_, rfl⟩
  rw [← hA] at e0 e1 e2 e3
  have e0 : PosAt X A l c := e0
  have e1 : PosAt X (A + 1) 0 0 := e1
  have e2 : PosAt X (A + 2) 0 0 := e2
  have hAw : w.heap.size ≤ A := by omega
  have hwA : A ≤ w.heap.size := by omega
  have HX := Lib.hid (And.intro hX hA)
  cases op with
  | false =>
    have hr : enV ls l c b nn = none := if_neg (fun hh => by rw [← hop] at hh; cases hh.2)
    rw [hr]
    have a0 := e1.c0
    have a1 := e1.c1
    have a2 := e2.c0
    have a3 := e2.c1
    have a4 : X.cell? ⟨A + 3, 0, none⟩ = some (.bool false) := (cell_of_row X _ 0 _ _ _ e3).trans (by simp)
    have y0 := fun k => frozen_of_row X (A + 1) k _ _ e1
    have y1 := fun k => frozen_of_row X (A + 2) k _ _ e2
    have y2 := frozen_of_row X (A + 3) 0 _ _ e3
    have HE := Lib.hid (And.intro e1 (And.intro e2 (And.intro e3 hbX)))
    clear hr ho hss hop hq h hX hA e0 e1 e2 e3 hbX hsX
    go_enter Try.func23, Try.ntmps23
    go_wp2_with fail
    rw [← HX.out.1, ← HX.out.2]
    refine (hkd _).mono ?_
    rintro e w' ⟨rfl, rfl⟩
    go_wp2
    have hf := put6_at HE.out.1 HE.out.2.1 HE.out.2.2.1 0 0 0 0 false
    exact bodyPost_ret (results_ppb rfl _ _ (A + 1) (A + 2) (A + 3) 0 0 0 0 false rfl rfl rfl hf.1 hf.2.1 ((cell_of_row _ _ 0 _ _ _ hf.2.2).trans (by simp))) rfl ⟨rfl, HE.out.2.2.2.trans ((put6_fr X A 0 0 0 0 false).below (by have := HE.out.2.2.2.size; omega) (fun k hk => by omega))⟩
  | true =>
    have h1 := inside_any a n c' ls l c X (SrcV.below h hbX) hs
    have p0 := e0.c0
    have p1 := e0.c1
    by_cases hp : Plc ls l c
    rotate_left
    · have hr : enV ls l c b nn = none := if_neg (fun hh => hp hh.1.1)
      rw [hr]
      rw [decide_eq_false hp] at h1
      have HE := Lib.hid (And.intro e1 (And.intro e2 (And.intro e3 hbX)))
      clear hr ho hss hop hq h hX hA e0 e1 e2 e3 hbX hsX hp
      go_enter Try.func23, Try.ntmps23
      go_wp2_with fail
      rw [← HX.out.1, ← HX.out.2]
      refine (hkd _).mono ?_
      rintro e w' ⟨rfl, rfl⟩
      go_wp2_with fail
      refine h1.mono ?_
      rintro e w1 ⟨rfl, hb1⟩
      obtain ⟨e1, e2, e3, hbX⟩ := HE.out
      have e1 := e1.below hb1 e1.lt
      have e2 := e2.below hb1 e2.lt
      have e3 := (hb1.block _ (hlt e3)).trans e3
      have a0 := e1.c0
      have a1 := e1.c1
      have a2 := e2.c0
      have a3 := e2.c1
      have a4 : w1.cell? ⟨A + 3, 0, none⟩ = some (.bool false) := (cell_of_row w1 _ 0 _ _ _ e3).trans (by simp)
      have y0 := fun k => frozen_of_row w1 (A + 1) k _ _ e1
      have y1 := fun k => frozen_of_row w1 (A + 2) k _ _ e2
      have y2 := frozen_of_row w1 (A + 3) 0 _ _ e3
      have HE := Lib.hid (And.intro e1 (And.intro e2 (And.intro e3 (below_on hbX hb1))))
      clear p0 p1 h1 e1 e2 e3 hbX hb1
      go_wp2
      have hf := put6_at HE.out.1 HE.out.2.1 HE.out.2.2.1 0 0 0 0 false
      exact bodyPost_ret (results_ppb rfl _ _ (A + 1) (A + 2) (A + 3) 0 0 0 0 false rfl rfl rfl hf.1 hf.2.1 ((cell_of_row _ _ 0 _ _ _ hf.2.2).trans (by simp))) rfl ⟨rfl, HE.out.2.2.2.trans ((put6_fr w1 A 0 0 0 0 false).below (by have := HE.out.2.2.2.size; omega) (fun k hk => by omega))⟩
    rw [decide_eq_true hp] at h1
    by_cases hn1 : 1 ≤ nn
    rotate_left
    · have hr : enV ls l c b nn = none := if_neg (fun hh => hn1 hh.1.2)
      rw [hr]
      have dn : decide (nn < 1) = true := decide_eq_true (by omega)
      have HE := Lib.hid (And.intro e1 (And.intro e2 (And.intro e3 hbX)))
      clear hr ho hss hop hq h hX hA e0 e1 e2 e3 hbX hsX hp hn1
      go_enter Try.func23, Try.ntmps23
      go_wp2_with fail
      rw [← HX.out.1, ← HX.out.2]
      refine (hkd _).mono ?_
      rintro e w' ⟨rfl, rfl⟩
      go_wp2_with fail
      refine h1.mono ?_
      rintro e w1 ⟨rfl, hb1⟩
      obtain ⟨e1, e2, e3, hbX⟩ := HE.out
      have e1 := e1.below hb1 e1.lt
      have e2 := e2.below hb1 e2.lt
      have e3 := (hb1.block _ (hlt e3)).trans e3
      have a0 := e1.c0
      have a1 := e1.c1
      have a2 := e2.c0
      have a3 := e2.c1
      have a4 : w1.cell? ⟨A + 3, 0, none⟩ = some (.bool false) := (cell_of_row w1 _ 0 _ _ _ e3).trans (by simp)
      have y0 := fun k => frozen_of_row w1 (A + 1) k _ _ e1
      have y1 := fun k => frozen_of_row w1 (A + 2) k _ _ e2
      have y2 := frozen_of_row w1 (A + 3) 0 _ _ e3
      have HE := Lib.hid (And.intro e1 (And.intro e2 (And.intro e3 (below_on hbX hb1))))
      clear p0 p1 h1 e1 e2 e3 hbX hb1
      go_wp2
      have hf := put6_at HE.out.1 HE.out.2.1 HE.out.2.2.1 0 0 0 0 false
      exact bodyPost_ret (results_ppb rfl _ _ (A + 1) (A + 2) (A + 3) 0 0 0 0 false rfl rfl rfl hf.1 hf.2.1 ((cell_of_row _ _ 0 _ _ _ hf.2.2).trans (by simp))) rfl ⟨rfl, HE.out.2.2.2.trans ((put6_fr w1 A 0 0 0 0 false).below (by have := HE.out.2.2.2.size; omega) (fun k hk => by omega))⟩
    obtain ⟨i, k, rfl, rfl, hi, hk⟩ := hp.nat
    obtain ⟨m, hm⟩ : ∃ m : Nat, m = nn.toNat := ⟨_, rfl⟩
    have hm1 : 1 ≤ m := by omega
    obtain ⟨r, hr⟩ : ∃ r, r = enV ls i k b nn := ⟨_, rfl⟩
    rw [← hr]
    rw [show enV ls i k b nn = (enL ls i k b)[m - 1]? by rw [hm]; exact if_pos ⟨⟨hp, hn1⟩, hop.symm⟩] at hr
    obtain ⟨K, hK⟩ : ∃ K, K = min m 1073741824 := ⟨_, rfl⟩
    rw [← enV_cap hK hm1 htz] at hr
    rw [show enL ls i k b = enc (i, k) (P ls b) from rfl] at hr
    have hK1 : 1 ≤ K := by omega
    have hK2 : K ≤ 1073741824 := by omega
    have mn1 : min nn 1073741824 = (K : Int) := by omega
    have mn2 : (if nn < 1073741824 then nn else 1073741824) = (K : Int) := by
      by_cases hh : nn < 1073741824
      · rw [if_pos hh]; omega
      · rw [if_neg hh]; omega
    have mn4 : (if nn ≤ 1073741824 then nn else 1073741824) = (K : Int) := by
      by_cases hh : nn ≤ 1073741824
      · rw [if_pos hh]; omega
      · rw [if_neg hh]; omega
    have mn5 : (if 1073741824 < nn then 1073741824 else nn) = (K : Int) := by
      by_cases hh : 1073741824 < nn
      · rw [if_pos hh]; omega
      · rw [if_neg hh]; omega
    have mn6 : (if 1073741824 ≤ nn then 1073741824 else nn) = (K : Int) := by
      by_cases hh : 1073741824 ≤ nn
      · rw [if_pos hh]; omega
      · rw [if_neg hh]; omega
    have dn1 : decide (nn < 1) = false := decide_eq_false (by omega)
    have hpt := fun W (hW : Below w.heap.size w W) (M : Nat) (hM : M < W.heap.size) => pairs_tells a n c' ls b (fun k => k = M) W (SrcV.below h hW) hs hn6 htz (by omega) (kB_facts hop.symm).1 (fun k e => by omega)
    rw [← ho, ← hss] at hpt
    have HPT := Lib.hid hpt
    have HR := Lib.hid hr
    have HE := Lib.hid (And.intro e0 (And.intro e1 (And.intro e2 (And.intro e3 hbX))))
    clear hX h hr ho hss hop hq hpt e0 e1 e2 e3 hbX hA hp hn1 hK hm hm1 hi hk hsX
    refine (callsIn_wide (n := 9)).1 ?_
    refine callsIn_of_wp_marks Try.func23 rfl trivial ?_ rfl
    simp only [Try.ntmps23, List.size_toArray, List.length_cons, List.length_nil, Nat.reduceAdd, Nat.reduceSub, Array.replicate_succ, Array.replicate_zero, List.push_toArray, List.append_toArray, List.nil_append, List.cons_append]
    refine wpIn_mono (Q := noPanic _) ?_ (noPanic_out _)
    gi_wp2_with fail
    refine ⟨trivial, ?_⟩
    rw [← HX.out.1, ← HX.out.2]
    refine (callsIn_wide.2 (hkd _)).mono ?_
    rintro e w' ⟨rfl, rfl⟩
    clear hkd
    gi_wp2_with fail
    refine ⟨trivial, ?_⟩
    refine (callsIn_wide.2 h1).mono ?_
    rintro e w1 ⟨rfl, hb1⟩
    clear p0 p1 h1 HX
    gi_wp2_with fail
    refine ⟨trivial, ?_⟩
    obtain ⟨M, hM⟩ : ∃ M, M = w1.heap.size := ⟨_, rfl⟩
    obtain ⟨x2, hx2⟩ : ∃ x, x = w1.alloc (.cells #[.int .i64 K] 3) := ⟨_, rfl⟩
    have hb2 : Below w1.heap.size w1 x2 := by rw [hx2]; exact (Below.refl _ _).alloc (Nat.le_refl _) _
    have hg2 : x2.heap[M]? = some (.cells #[.int .i64 K] 3 (0, 0)) := by rw [hx2, hM]; exact heap_alloc_new w1 _
    have hM2 : M < x2.heap.size := by rw [hx2, hM]; simp
    rw [← hx2, ← hM]
    obtain ⟨f0, f1, f2, f3, f4⟩ := HE.out
    have hb12 := below_on hb1 hb2
    refine (callsIn_wide.2 (HPT.out x2 (below_on f4 hb12) M hM2)).mono ?_
    rintro e Wi ⟨g, lb, rfl, hen, hit, hb3⟩
    have hAM : A + 4 ≤ M := by have := hb1.size; have := hlt f3; omega
    have hb13 := below_on hb12 hb3
    have bi := below_on f4 hb13
    have f0 := f0.below hb13 f0.lt
    have f1 := f1.below hb13 f1.lt
    have f2 := f2.below hb13 f2.lt
    have f3 := (hb13.block _ (hlt f3)).trans f3
    have hg3 := (hb3.block M hM2).trans hg2
    have hMi : M < Wi.heap.size := hlt hg3
    have hwi := bi.size
    clear hb1 hb2 hb3 hb12 hb13 f4 HE HPT hg2 hM hx2 hM2 mn1 mn2 mn4 mn5 mn6
    generalize P ls b = xs at *
    gi_wp2_with fail
    refine rangeFunc_iter2 (by omega) (gf := g) (lb := lb) rfl hen hit
      (fun h1 h2 => h1.trans h2) (fun V l o o' _ ho hc _ => Kc.put V l o o' ho hc) (Below.refl _ _) (fun _ => rfl)
      (fun pre V => Et w Wi A M (i, k) (K - (enc (i, k) pre).length) V ∧ Wi.heap.size ≤ V.heap.size ∧ (enc (i, k) pre).length < K)
      (fun c pre V => c = .ret ∧ Kn w Wi V ∧ Wi.heap.size ≤ V.heap.size ∧ EtX A (i, k) K pre V) ?hI ?hIx ⟨⟨Fr.refl _ _, f0, f1, f2, f3, hg3⟩, Nat.le_refl _, by show 0 < K; omega⟩ ?round ?done ?stop
    case hI => exact ⟨fun s V h => h.2.1, fun s V V' h hb => ⟨h.1.below (by omega) hMi hwi hb, Nat.le_trans h.2.1 hb.size, h.2.2⟩⟩
    case hIx =>
      intro c
      refine ⟨fun s V h => h.2.2.1, ?_⟩
      rintro s V V' ⟨h1, h2, h3, p0, x, h4, h5, h6, h7, h8, h9⟩ hb
      exact ⟨h1, h2.trans ⟨hb.os, hb.tape, hb.output, hb.size, fun k _ hn => hb.block k (by have : ¬ w.heap.size ≤ k := hn; omega)⟩, Nat.le_trans h3 hb.size, p0, x, h4, h5, h6, (hb.block _ (by omega)).trans h7, (hb.block _ (by omega)).trans h8, (hb.block _ (by omega)).trans h9⟩
    case stop =>
      rintro D c pre V9 hD ⟨rest, hpre⟩ hne ⟨rfl, hF, hsz, p0, x, rfl, hl, hx, hq1, hq2, hb⟩ hk
      have hn : r = some x := by
        obtain ⟨r', hr'⟩ := enc_at (p := (i, k)) (show xs = p0 ++ x :: rest by rw [← hpre]; simp) hx
        rw [HR.out, hr', List.getElem?_append_right (by omega), show K - 1 - (enc (i, k) p0).length = 0 by omega]; rfl
      have HN := Lib.hid (And.intro hF (And.intro hq1 (And.intro hq2 (And.intro hb hn))))
      clear hF hq1 hq2 hb hn hx hl hpre
      gi_wp2
      refine ⟨by simp, .inl ⟨_, _, rfl, run_takeDeferred hk, ?_⟩⟩
      obtain ⟨hF, hq1, hq2, hb, hn⟩ := HN.out
      refine ⟨_, results_ppb rfl _ _ (A + 1) (A + 2) (A + 3) x.1.1 x.1.2 x.2.1 x.2.2 true rfl rfl rfl ((World.putObj_heap_other (by omega)).trans hq1) ((World.putObj_heap_other (by omega)).trans hq2) ((cell_of_row _ _ 0 _ _ _ ((World.putObj_heap_other (by omega)).trans hb)).trans (by simp)), by rw [hn]; rfl, ?_⟩
      exact (Kn.below bi hF).grown (grownBy_putObj' _ D _) (Kn.below bi hF).size (fun k e => by cases e; omega)
    case done =>
      rintro D V9 hD ⟨hP, hsz, hno⟩ hk
      have a0 := hP.r1.c0
      have a1 := hP.r1.c1
      have a2 := hP.r2.c0
      have a3 := hP.r2.c1
      have a4 : V9.cell? ⟨A + 3, 0, none⟩ = some (.bool false) := (cell_of_row V9 _ 0 _ _ _ hP.bl).trans (by simp)
      have y0 := fun k => frozen_of_row V9 (A + 1) k _ _ hP.r1
      have y1 := fun k => frozen_of_row V9 (A + 2) k _ _ hP.r2
      have y2 := frozen_of_row V9 (A + 3) 0 _ _ hP.bl
      have hn : r = none := by rw [HR.out, List.getElem?_eq_none (by omega)]
      have HN := Lib.hid (And.intro hP (And.intro hk hn))
      clear hP hk hn hno
      gi_wp2
      obtain ⟨hP, hk, hn⟩ := HN.out
      have hf := put6_at hP.r1 hP.r2 hP.bl 0 0 0 0 false
      have hff := put6_fr V9 A 0 0 0 0 false
      have e3 : (put6 V9 A 0 0 0 0 false).heap[D]? = some (.deferred (some [])) := (hff.block D (hlt hk) (by omega)).trans hk
      have e4 : Below w.heap.size w (put6 V9 A 0 0 0 0 false) := (Kn.below bi hP.kn).trans (hff.below (by omega) (fun k hk => by omega))
      refine ⟨by simp, .inl ⟨_, _, rfl, run_takeDeferred e3, ?_⟩⟩
      refine ⟨_, results_ppb rfl _ _ (A + 1) (A + 2) (A + 3) 0 0 0 0 false rfl rfl rfl ((World.putObj_heap_other (by omega)).trans hf.1) ((World.putObj_heap_other (by omega)).trans hf.2.1) ((cell_of_row _ _ 0 _ _ _ ((World.putObj_heap_other (by omega)).trans hf.2.2)).trans (by simp)), by rw [hn]; rfl, ?_⟩
      exact e4.grown (grownBy_putObj' _ D _) e4.size (fun k e => by cases e; omega)
    case round =>
      rintro l' pre ⟨x, y⟩ V0 ⟨rest, hpr⟩ hsz0 hi0
      dsimp only [encpp]
      have HI0 := Lib.hid hi0
      clear hi0
      gi_wp2
      have hb0 : Below V0.heap.size V0 ((V0.alloc (.cells #[.int .i64 x.1, .int .i64 x.2] 24)).alloc (.cells #[.int .i64 y.1, .int .i64 y.2] 24)) := two_below _ _ _
      refine ⟨Keep.ofFr (Fr.ofBelow hb0 (fun _ => False)) hsz0 (fun k e => e.elim), Kc.ofBelow hb0, ⟨HI0.out.1.below (B := Wi.heap.size) (by omega) hMi hwi (hb0.mono HI0.out.2.1), Nat.le_trans HI0.out.2.1 hb0.size, HI0.out.2.2⟩, ?_⟩
      rintro V9 hgr hl - hszV ⟨hP, hsz9, hlK⟩
      obtain ⟨QB, hQB⟩ : ∃ QB, QB = V0.heap.size := ⟨_, rfl⟩
      have gx : PosAt V9 QB x.1 x.2 := by
        rw [hQB]
        exact (hgr.block _ (by simp; omega) (by intro e; injection e with e; omega)).trans ((Below.heap_alloc _ _ _ (by simp)).trans (heap_alloc_new V0 _))
      have gy : PosAt V9 (QB + 1) y.1 y.2 := by
        rw [hQB]
        exact (hgr.block _ (by simp) (by intro e; injection e with e; omega)).trans (two_new V0 _ _)
      rw [← hQB]
      have hQM : Wi.heap.size + 14 ≤ QB := by omega
      have p0 := hP.pos.c0
      have p1 := hP.pos.c1
      have x0 := gx.c0
      have x1 := gx.c1
      have hls := So.less_any i k x.1 x.2 V9
      have HP := Lib.hid (And.intro hP (And.intro hsz9 (And.intro hlK (And.intro gx gy))))
      clear hgr hl gx gy hQB HI0 hP hlK hb0 hsz0
      cases hlp : lp (i, k) x
      rotate_left
      · rw [show So.lt i k x.1 x.2 = true from hlp] at hls
        have hne := enc_no (pre := pre) (x := (x, y)) (show eb (i, k) (x, y) = false by unfold eb; rw [hlp]; rfl)
        have HNE := Lib.hid hne
        clear hlp hne
        gi_wp2_with fail
        refine ⟨trivial, ?_⟩
        refine (CallsIn.inRound l' (callsIn_wide.2 hls)).mono ?_
        rintro e V2 ⟨rfl, hb2⟩
        clear hls p0 p1 x0 x1
        gi_wp2_with (refine ⟨trivial, ?_⟩)
        obtain ⟨hP, hsz9, hlK, _⟩ := HP.out
        refine ⟨Keep.ofFr (Fr.ofBelow hb2 (fun _ => False)) hszV (fun k e => e.elim), Kc.ofBelow hb2, ?_⟩
        show Et w Wi A M (i, k) (K - (enc (i, k) (pre ++ [(x, y)])).length) V2 ∧ Wi.heap.size ≤ V2.heap.size ∧ (enc (i, k) (pre ++ [(x, y)])).length < K
        rw [HNE.out]
        exact ⟨hP.below (B := Wi.heap.size) (by omega) hMi hwi (hb2.mono hsz9), Nat.le_trans hsz9 hb2.size, hlK⟩
      rw [show So.lt i k x.1 x.2 = false from hlp] at hls
      gi_wp2_with fail
      refine ⟨trivial, ?_⟩
      refine (CallsIn.inRound l' (callsIn_wide.2 hls)).mono ?_
      rintro e V2 ⟨rfl, hb2⟩
      clear hls p0 p1 x0 x1
      obtain ⟨hP, hsz9, hlK, gx, gy⟩ := HP.out
      have hP := hP.below (B := Wi.heap.size) (by omega) hMi hwi (hb2.mono hsz9)
      have gx := gx.below hb2 gx.lt
      have gy := gy.below hb2 gy.lt
      have hs2 : Wi.heap.size ≤ V2.heap.size := Nat.le_trans hsz9 hb2.size
      have p0 := hP.pos.c0
      have p1 := hP.pos.c1
      have x0 := gy.c0
      have x1 := gy.c1
      have hls := So.less_any y.1 y.2 i k V2
      have hk2 : Keep Wi.heap.size (Wi.heap.size + 2 + 12) V9 V2 := Keep.ofFr (Fr.ofBelow hb2 (fun _ => False)) hszV (fun k e => e.elim)
      have hc2 : Kc (fun k => k = M) V9 V2 := Kc.ofBelow hb2
      have hszV2 := Nat.le_trans hszV hb2.size
      have H2 := Lib.hid (And.intro hP (And.intro hlK (And.intro gx (And.intro gy (And.intro hk2 hc2)))))
      clear hP hlK gx gy hb2 HP hk2 hc2
      cases hlq : lp y (i, k)
      rotate_left
      · rw [show So.lt y.1 y.2 i k = true from hlq] at hls
        have hne := enc_no (pre := pre) (x := (x, y)) (show eb (i, k) (x, y) = false by unfold eb; rw [hlp, hlq]; rfl)
        have HNE := Lib.hid hne
        clear hlp hlq hne
        gi_wp2_with fail
        refine ⟨trivial, ?_⟩
        refine (CallsIn.inRound l' (callsIn_wide.2 hls)).mono ?_
        rintro e V3 ⟨rfl, hb3⟩
        clear hls p0 p1 x0 x1
        gi_wp2
        obtain ⟨hP, hlK, gx, gy, hk2, hc2⟩ := H2.out
        refine ⟨hk2.trans (Keep.ofFr (Fr.ofBelow hb3 (fun _ => False)) hszV2 (fun k e => e.elim)), hc2.trans (Kc.ofBelow hb3), ?_⟩
        show Et w Wi A M (i, k) (K - (enc (i, k) (pre ++ [(x, y)])).length) V3 ∧ Wi.heap.size ≤ V3.heap.size ∧ (enc (i, k) (pre ++ [(x, y)])).length < K
        rw [HNE.out]
        exact ⟨hP.below (B := Wi.heap.size) (by omega) hMi hwi (hb3.mono hs2), Nat.le_trans hs2 hb3.size, hlK⟩
      rw [show So.lt y.1 y.2 i k = false from hlq] at hls
      have hne := enc_yes (pre := pre) (x := (x, y)) (show eb (i, k) (x, y) = true by unfold eb; rw [hlp, hlq]; rfl)
      have hebt : eb (i, k) (x, y) = true := by unfold eb; rw [hlp, hlq]; rfl
      have HNE := Lib.hid (And.intro hne hebt)
      clear hlp hlq hne hebt
      gi_wp2_with fail
      refine ⟨trivial, ?_⟩
      refine (CallsIn.inRound l' (callsIn_wide.2 hls)).mono ?_
      rintro e V3 ⟨rfl, hb3⟩
      clear hls p0 p1 x0 x1
      obtain ⟨hP, hlK, gx, gy, hk2, hc2⟩ := H2.out
      obtain ⟨L, hL⟩ : ∃ L, L = (enc (i, k) pre).length := ⟨_, rfl⟩
      rw [← hL] at hP hlK
      have hP := hP.below (B := Wi.heap.size) (by omega) hMi hwi (hb3.mono hs2)
      have gx := gx.below hb3 gx.lt
      have gy := gy.below hb3 gy.lt
      obtain ⟨rr, hrr⟩ : ∃ rr, K - L = rr + 1 := ⟨K - L - 1, by omega⟩
      rw [hrr] at hP
      have n0 : V3.cell? ⟨M, 0, none⟩ = some (.int .i64 ((rr + 1 : Nat) : Int)) := (cell_of_row V3 _ 0 _ _ _ hP.lf).trans (by simp)
      have nz := frozen_of_row V3 M 0 _ _ hP.lf
      have hw : IntKind.i64.wrap (((rr + 1 : Nat) : Int) - 1) = (rr : Int) := by rw [IntKind.wrap_i64]; omega
      obtain ⟨Y, hY⟩ : ∃ Y : Nat, Y = rr + 1 := ⟨_, rfl⟩
      rw [← hY] at n0 hw
      have hk3 := hk2.trans (Keep.ofFr (Fr.ofBelow hb3 (fun _ => False)) hszV2 (fun k e => e.elim))
      have hc3 : Kc (fun k => k = M) V9 V3 := hc2.trans (Kc.ofBelow hb3)
      have hs3 := Nat.le_trans hs2 hb3.size
      have hszV3 := Nat.le_trans hszV2 hb3.size
      have hwM : w.heap.size ≤ M := by omega
      have hQ3 : QB + 1 < V3.heap.size := gy.lt
      have H3 := Lib.hid (And.intro hP (And.intro gx (And.intro gy (And.intro hk3 (And.intro hc3 (And.intro hrr (And.intro hL hlK)))))))
      clear hP hlK gx gy hb3 H2 hk2 hk3 hc2 hc3 hrr hL hY
      rcases Nat.eq_zero_or_pos rr with hr0 | hr0
      · have d1 : ((rr : Int) == 0) = true := by rw [beq_iff_eq]; omega
        have HR0 := Lib.hid hr0
        obtain ⟨V4, hV4⟩ : ∃ V4, V4 = V3.setCell ⟨M, 0, none⟩ (.int .i64 rr) := ⟨_, rfl⟩
        have S4 : Et w Wi A M (i, k) rr V4 := by rw [hV4]; exact H3.out.1.set hAM hwM rr
        have f4 : Fr (fun k => k = M) V3 V4 := by rw [hV4]; exact (Fr.refl (fun k => k = M) V3).setCell (p := ⟨M, 0, none⟩) (fun _ => rfl) _
        have x4 := (f4.block _ H3.out.2.1.lt (by omega)).trans H3.out.2.1
        have y4 := (f4.block _ H3.out.2.2.1.lt (by omega)).trans H3.out.2.2.1
        have x4 : PosAt V4 QB x.1 x.2 := x4
        have y4 : PosAt V4 (QB + 1) y.1 y.2 := y4
        have a0 := S4.r1.c0
        have a1 := S4.r1.c1
        have a2 := S4.r2.c0
        have a3 := S4.r2.c1
        have a4 : V4.cell? ⟨A + 3, 0, none⟩ = some (.bool false) := (cell_of_row V4 _ 0 _ _ _ S4.bl).trans (by simp)
        have y0 := fun k => frozen_of_row V4 (A + 1) k _ _ S4.r1
        have y1 := fun k => frozen_of_row V4 (A + 2) k _ _ S4.r2
        have y2 := frozen_of_row V4 (A + 3) 0 _ _ S4.bl
        have b0 := x4.c0
        have b1 := x4.c1
        have b2 := y4.c0
        have b3 := y4.c1
        have n4 : V4.cell? ⟨M, 0, none⟩ = some (.int .i64 (rr : Int)) := (cell_of_row V4 _ 0 _ _ _ S4.lf).trans (by simp)
        rw [hV4] at a0 a1 a2 a3 a4 y0 y1 y2 b0 b1 b2 b3 n4
        have H4 := Lib.hid (And.intro S4 (And.intro f4 hV4))
        clear S4 f4 hV4 x4 y4 hr0
        gi_wp2
        gi_region
        all_goals gi_wp2
        all_goals
          obtain ⟨S4, f4, hV4⟩ := H4.out
          obtain ⟨hP, gx, gy, hk3, hc3, hrr, hL, hlK⟩ := H3.out
          have hf := put6_at S4.r1 S4.r2 S4.bl x.1 x.2 y.1 y.2 true
          have hff := put6_fr V4 A x.1 x.2 y.1 y.2 true
          have f9 : Fr (fun k => k = M ∨ (A + 1 ≤ k ∧ k ≤ A + 3)) V3 (put6 V4 A x.1 x.2 y.1 y.2 true).drew := ((f4.mono (fun k _ e => .inl e)).trans (hff.mono (fun k _ e => .inr e))).drew
          have hkn : Kn w Wi (put6 V4 A x.1 x.2 y.1 y.2 true).drew := (S4.kn.trans (hff.mono (fun k _ e => by show w.heap.size ≤ k; omega))).drew
          have hsz : Wi.heap.size ≤ (put6 V4 A x.1 x.2 y.1 y.2 true).drew.heap.size := Nat.le_trans hs3 f9.size
          have hkp : Keep Wi.heap.size (Wi.heap.size + 2 + 12) V9 (put6 V4 A x.1 x.2 y.1 y.2 true).drew := hk3.trans (Keep.ofFr f9 (by omega) (fun k e => by omega))
          have hex : EtX A (i, k) K (pre ++ [(x, y)]) (put6 V4 A x.1 x.2 y.1 y.2 true).drew := ⟨pre, (x, y), rfl, by have := HR0.out; rw [← hL]; omega, HNE.out.2, pos_drew hf.1, pos_drew hf.2.1, heap_drew hf.2.2⟩
          rw [hV4] at hkp hkn hsz hex
          unfold put6 at hkp hkn hsz hex
          rw [show A + 2 = A + 1 + 1 from rfl, show A + 3 = A + 1 + 1 + 1 from rfl] at hkp hkn hsz hex
          exact ⟨hkp, rfl, hkn, hsz, hex⟩
      · have d1 : ((rr : Int) == 0) = false := by rw [beq_eq_false_iff_ne]; omega
        have n4 : (V3.setCell ⟨M, 0, none⟩ (.int .i64 rr)).cell? ⟨M, 0, none⟩ = some (.int .i64 (rr : Int)) := (cell_of_row _ _ 0 _ _ _ (H3.out.1.set hAM hwM rr).lf).trans (by simp)
        gi_wp2
        obtain ⟨hP, gx, gy, hk3, hc3, hrr, hL, hlK⟩ := H3.out
        have f3 : Fr (fun k => k = M) V3 (V3.setCell ⟨M, 0, none⟩ (.int .i64 rr)) := (Fr.refl (fun k => k = M) V3).setCell (p := ⟨M, 0, none⟩) (fun _ => rfl) _
        refine ⟨hk3.trans (Keep.ofFr f3 (by omega) (fun k e => .inl (by omega))), hc3.trans (Kc.ofFr f3 (fun _ _ e => e)), ?_⟩
        show Et w Wi A M (i, k) (K - (enc (i, k) (pre ++ [(x, y)])).length) _ ∧ Wi.heap.size ≤ _ ∧ (enc (i, k) (pre ++ [(x, y)])).length < K
        rw [HNE.out.1, List.length_append, List.length_singleton, ← hL, show K - (L + 1) = rr by omega]
        exact ⟨hP.set hAM hwM rr, Nat.le_trans hs3 f3.size, by omega⟩
end Go.Proofs.Ytbimblfkkmpieaa.Pr
