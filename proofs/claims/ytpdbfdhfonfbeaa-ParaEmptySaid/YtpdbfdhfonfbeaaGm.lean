/-
  Package para: SentNext.
-/
import Derived.Test.YtpdbfdhfonfbeaaGi
import Derived.Test.YtpdbfdhfonfbeaaGn
import Derived.Test.YtpdbfdhfonfbeaaZq
import Derived.Test.YtpdbfdhfonfbeaaZh
set_option linter.unusedVariables false
set_option linter.unusedSimpArgs false
set_option maxRecDepth 100000
namespace Go.Proofs.Ytpdbfdhfonfbeaa.Pa
open Go Go.RowKit Go.Proofs.Ytpdbfdhfonfbeaa.Vk Go.Proofs.Ytpdbfdhfonfbeaa.Str Go.Proofs.Ytpdbfdhfonfbeaa.Ln Go.Proofs.Ytpdbfdhfonfbeaa.Cl Go.Proofs.Ytpdbfdhfonfbeaa.Mv Go.Proofs.Ytpdbfdhfonfbeaa.Wd Go.Shelf
attribute [local go_sem] Oper.semAt_some

/-- A motion and a bool, each handed back out of its variable. -/
theorem results_mv_bool {fn : Func} {p q : Tmp} (h : fn.results = #[.cell p 32, .cell q 4]) (tmps : Array Value) (w : World) (g g' : Nat) (l c y want : Int) (j ok : Bool)
    (hp : tmps.getD p undef = .pointer (some ⟨g, 0, none⟩)) (hq : tmps.getD q undef = .pointer (some ⟨g', 0, none⟩)) (hg : MvAt w g l c y j want) (hc : w.cell? ⟨g', 0, none⟩ = some (.bool ok)) :
    (results fn tmps).run Try.prog w = .ok (.tuple #[mvv l c y j want, .bool ok]) w := by
  have hp' : tmps[p]?.getD undef = .pointer (some ⟨g, 0, none⟩) := by simpa using hp
  have hq' : tmps[q]?.getD undef = .pointer (some ⟨g', 0, none⟩) := by simpa using hq
  have h0 := hg.c0
  have h1 := hg.c1
  have h2 := hg.c2
  have h3 := hg.c3
  have h4 := hg.c4
  clear hg
  simp only [results, h]
  go_simp
/-- What stands between the rounds: the place at A, the answer's two variables behind it, what is left at M. -/
structure Sn (w Wi : World) (A M : Nat) (p : P2) (left : Nat) (V : World) : Prop where
  kn : Kn w Wi V
  pos : PosAt V A p.1 p.2
  mv : MvAt V (A + 1) 0 0 0 false 0
  bl : V.heap[A + 2]? = some (.cells #[.bool false] 4 (0, 0))
  lf : V.heap[M]? = some (.cells #[.int .i64 (left : Int)] 3 (0, 0))
theorem hlt {V : World} {k : Nat} {o : Obj} (h : V.heap[k]? = some o) : k < V.heap.size := (Array.getElem?_eq_some_iff.1 h).1
theorem Sn.below {w Wi : World} {A M : Nat} {p : P2} {left : Nat} {V V' : World} (h : Sn w Wi A M p left V) (hb : Below V.heap.size V V') : Sn w Wi A M p left V' :=
  ⟨h.kn.trans (Fr.ofBelow hb _), h.pos.below hb h.pos.lt, h.mv.below hb h.mv.lt, (hb.block _ (hlt h.bl)).trans h.bl, (hb.block _ (hlt h.lf)).trans h.lf⟩
theorem Sn.grown {w Wi : World} {A M B : Nat} {p : P2} {left : Nat} {V V' : World} {row : Option Nat} (h : Sn w Wi A M p left V) (hA : A + 3 ≤ M) (hM : M < B) (hB : w.heap.size ≤ B) (hg : V.grownBy V' row) (hr : ∀ r, row = some r → B ≤ r ∧ ∃ o : Obj, V.heap[r]? = some o ∧ o.isCells = false) : Sn w Wi A M p left V' := by
  have hk : ∀ k, k < B → k < V.heap.size → V'.heap[k]? = V.heap[k]? := fun k hk hkA => hg.block k hkA (fun e => by have := (hr _ e.symm).1; omega)
  exact ⟨own_kn (α := P2) hB [] V V' row h.kn hg hr, (hk _ (by omega) h.pos.lt).trans h.pos, (hk _ (by omega) h.mv.lt).trans h.mv, (hk _ (by omega) (hlt h.bl)).trans h.bl, (hk _ (by omega) (hlt h.lf)).trans h.lf⟩
theorem Sn.set {w Wi : World} {A M : Nat} {p : P2} {left : Nat} {V : World} (h : Sn w Wi A M p left V) (hA : A + 3 ≤ M) (hB : w.heap.size ≤ M) (r : Nat) : Sn w Wi A M p r (V.setCell ⟨M, 0, none⟩ (.int .i64 r)) :=
  ⟨h.kn.setCell (p := ⟨M, 0, none⟩) (fun _ => hB) _, h.pos.other (by omega), h.mv.other (by omega), (Below.heap_setCell _ _ _ _ (by simp; omega)).trans h.bl, (heap_setCell_same _ M 0 _ _ _ h.lf).trans (by simp)⟩
theorem snV_yes {ls : List ByteArray} {past : Bool} {p x : P2} {l pre rest : List P2} {k : Nat} (h : l = pre ++ x :: rest) (hk : pre.length + 1 = k) : snV ls past p l k = (x, true) := by
  unfold snV
  subst h hk
  rw [if_pos (by simp), List.getD_eq_getElem?_getD]
  simp
theorem snV_end {ls : List ByteArray} {past : Bool} {p : P2} {l : List P2} {k : Nat} (h : l.length + 1 = k) (hp : past = true) (hl : lp p (lastP ls true) = true) : snV ls past p l k = (lastP ls true, true) := by
  unfold snV
  rw [if_neg (by omega), if_pos ⟨h, hp, hl⟩]
theorem snV_no {ls : List ByteArray} {past : Bool} {p : P2} {l : List P2} {k : Nat} (h : l.length < k) (hn : ¬ (l.length + 1 = k ∧ past = true ∧ lp p (lastP ls true) = true)) : snV ls past p l k = ((0, 0), false) := by
  unfold snV
  rw [if_neg (by omega), if_neg hn]
theorem snV_cap {ls : List ByteArray} {past : Bool} {p : P2} {l : List P2} (k : Nat) (h : l.length + 1 < 1073741824) : snV ls past p l (min k 1073741824) = snV ls past p l k := by
  by_cases hk : k ≤ 1073741824
  · rw [Nat.min_eq_left hk]
  · rw [Nat.min_eq_right (by omega), snV_no (by omega) (fun hh => by omega), snV_no (by omega) (fun hh => by omega)]

set_option maxHeartbeats 16000000 in
theorem snext_any (a : Option Addr) (n c' : Nat) (ls : List ByteArray) (l c : Int) (nn : Int) (past : Bool) (w : World) (h : Ss w a n c' ls) (hs : ∀ s ∈ ls, s.size ≤ 140737488355328) (hn6 : n ≤ 1000000) (htz : tz ls ≤ 900000) (hnn : nn ≤ 9223372036854775807) :
    Calls Try.prog 22 #[.slice a n c', .agg #[.int .i64 l, .int .i64 c], .int .i64 nn, .bool past] w fun e w' => e = .returned (snR ls l c nn past).v ∧ Below w.heap.size w w' := by
  have hlen := h.length
  have hn := h.le63
  by_cases hpk : Plc ls l c ∧ 1 ≤ nn
  rotate_left
  · by_cases hp : Plc ls l c
    · have hk : ¬ 1 ≤ nn := fun hh => hpk ⟨hp, hh⟩
      have hr : snR ls l c nn past = R.no := ifm_no fun hh => hk hh.2
      rw [hr]
      obtain ⟨X, hX⟩ : ∃ X, X = ((w.alloc (.cells #[.int .i64 l, .int .i64 c] 24)).alloc (.cells #[.int .i64 0, .int .i64 0, .int .i64 0, .bool false, .int .i64 0] 32)).alloc (.cells #[.bool false] 4) := ⟨_, rfl⟩
      obtain ⟨hsX, e0, e1, e2, hbX⟩ := three_rows w (.cells #[.int .i64 l, .int .i64 c] 24) (.cells #[.int .i64 0, .int .i64 0, .int .i64 0, .bool false, .int .i64 0] 32) (.cells #[.bool false] 4)
      rw [← hX] at hsX e0 e1 e2 hbX
      obtain ⟨A, hA⟩ : ∃ A, A = w.heap.size := ⟨_, rfl⟩
      rw [← hA] at e0 e1 e2
      have e0 : PosAt X A l c := e0
      have e1 : MvAt X (A + 1) 0 0 0 false 0 := e1
      have hAw : w.heap.size ≤ A := by omega
      have HX := Lib.hid (And.intro hX hA)
      have h1 := inside_any a n c' ls l c X (SrcV.below h hbX) hs
      rw [decide_eq_true hp] at h1
      have dn1 : decide (nn < 1) = true := decide_eq_true (by omega)
      clear hr hp hk h hpk
      have h1m := h1
      have p0 := e0.c0
      have p1 := e0.c1
      have HE := Lib.hid (And.intro e1 (And.intro e2 hbX))
      clear e0 e1 e2 hbX hsX hX hA
      go_enter Try.func22, Try.ntmps22
      go_wp2_with fail
      rw [← HX.out.1, ← HX.out.2]
      refine h1.mono ?_
      rintro e w1 ⟨rfl, hb_w1⟩
      have q1 := HE.out.1.below hb_w1 HE.out.1.lt
      have q2 := (hb_w1.block _ (hlt HE.out.2.1)).trans HE.out.2.1
      have q3 := below_on HE.out.2.2 hb_w1
      have m0 := q1.c0
      have m1 := q1.c1
      have m2 := q1.c2
      have m3 := q1.c3
      have m4 := q1.c4
      have z := q1.z
      have b0 : w1.cell? ⟨A + 2, 0, none⟩ = some (.bool false) := (cell_of_row w1 _ 0 _ _ _ q2).trans (by simp)
      have bz := frozen_of_row w1 (A + 2) 0 _ _ q2
      have HQ := Lib.hid (And.intro q1 (And.intro q2 q3))
      clear p0 p1 h1 h1m q1 q2 q3 hb_w1 HE
      go_wp2
      have e1 := HQ.out.1.put 0 0 0 0 false
      have e2 := (heap_setCell_same _ (A + 2) 0 _ _ (.bool false) ((put5_other (l := 0) (c := 0) (wy := 0) (j := false) (want := 0) (g := A + 1) (by omega)).trans HQ.out.2.1))
      exact bodyPost_ret (results_mv_bool rfl _ _ (A + 1) (A + 2) 0 0 0 0 false false rfl rfl (e1.other (by omega)) ((cell_of_row _ _ 0 _ _ _ e2).trans (by simp))) rfl ⟨rfl, (put5_below HQ.out.2.2 (by omega) 0 0 0 0 false).setCell (p := ⟨A + 2, 0, none⟩) (by simp; omega) _⟩
    · have hr : snR ls l c nn past = R.no := ifm_no fun hh => hp hh.1
      rw [hr]
      obtain ⟨X, hX⟩ : ∃ X, X = ((w.alloc (.cells #[.int .i64 l, .int .i64 c] 24)).alloc (.cells #[.int .i64 0, .int .i64 0, .int .i64 0, .bool false, .int .i64 0] 32)).alloc (.cells #[.bool false] 4) := ⟨_, rfl⟩
      obtain ⟨hsX, e0, e1, e2, hbX⟩ := three_rows w (.cells #[.int .i64 l, .int .i64 c] 24) (.cells #[.int .i64 0, .int .i64 0, .int .i64 0, .bool false, .int .i64 0] 32) (.cells #[.bool false] 4)
      rw [← hX] at hsX e0 e1 e2 hbX
      obtain ⟨A, hA⟩ : ∃ A, A = w.heap.size := ⟨_, rfl⟩
      rw [← hA] at e0 e1 e2
      have e0 : PosAt X A l c := e0
      have e1 : MvAt X (A + 1) 0 0 0 false 0 := e1
      have hAw : w.heap.size ≤ A := by omega
      have HX := Lib.hid (And.intro hX hA)
      have h1 := inside_any a n c' ls l c X (SrcV.below h hbX) hs
      rw [decide_eq_false hp] at h1
      clear hr hp h hpk
      have h1m := h1
      have p0 := e0.c0
      have p1 := e0.c1
      have HE := Lib.hid (And.intro e1 (And.intro e2 hbX))
      clear e0 e1 e2 hbX hsX hX hA
      go_enter Try.func22, Try.ntmps22
      go_wp2_with fail
      rw [← HX.out.1, ← HX.out.2]
      refine h1.mono ?_
      rintro e w1 ⟨rfl, hb_w1⟩
      have q1 := HE.out.1.below hb_w1 HE.out.1.lt
      have q2 := (hb_w1.block _ (hlt HE.out.2.1)).trans HE.out.2.1
      have q3 := below_on HE.out.2.2 hb_w1
      have m0 := q1.c0
      have m1 := q1.c1
      have m2 := q1.c2
      have m3 := q1.c3
      have m4 := q1.c4
      have z := q1.z
      have b0 : w1.cell? ⟨A + 2, 0, none⟩ = some (.bool false) := (cell_of_row w1 _ 0 _ _ _ q2).trans (by simp)
      have bz := frozen_of_row w1 (A + 2) 0 _ _ q2
      have HQ := Lib.hid (And.intro q1 (And.intro q2 q3))
      clear p0 p1 h1 h1m q1 q2 q3 hb_w1 HE
      go_wp2
      have e1 := HQ.out.1.put 0 0 0 0 false
      have e2 := (heap_setCell_same _ (A + 2) 0 _ _ (.bool false) ((put5_other (l := 0) (c := 0) (wy := 0) (j := false) (want := 0) (g := A + 1) (by omega)).trans HQ.out.2.1))
      exact bodyPost_ret (results_mv_bool rfl _ _ (A + 1) (A + 2) 0 0 0 0 false false rfl rfl (e1.other (by omega)) ((cell_of_row _ _ 0 _ _ _ e2).trans (by simp))) rfl ⟨rfl, (put5_below HQ.out.2.2 (by omega) 0 0 0 0 false).setCell (p := ⟨A + 2, 0, none⟩) (by simp; omega) _⟩
  obtain ⟨hp, hk⟩ := hpk
  have hp0 := hp
  obtain ⟨i, k, rfl, rfl, hi, hkk⟩ := hp0.nat
  obtain ⟨m, rfl⟩ : ∃ m : Nat, nn = m := ⟨nn.toNat, by omega⟩
  have hm1 : 1 ≤ m := by omega
  have hr : snR ls i k m past = jmp (snV ls past (i, k) (aft (sen ls) (i, k)) m) := ifm_yes hp hm1
  rw [hr]
  have hLc : (aft (sen ls) (i, k)).length ≤ 1000000 := by
    have h1 := List.length_filter_le (fun x => lp (i, k) x) (sen ls)
    have h2 := sen_tz ls
    unfold aft
    omega
  have hcap := snV_cap (ls := ls) (past := past) (p := (i, k)) (l := aft (sen ls) (i, k)) m (by omega)
  obtain ⟨K, hK⟩ : ∃ K, K = min m 1073741824 := ⟨_, rfl⟩
  rw [← hK] at hcap
  obtain ⟨r, hrr⟩ : ∃ r, r = jmp (snV ls past (i, k) (aft (sen ls) (i, k)) K) := ⟨_, rfl⟩
  rw [← hcap, ← hrr]
  have hct : ∀ W, Calls Try.prog 27 #[.int .i64 m] W fun e w' => e = .returned (.int .i64 (K : Int)) ∧ W = w' := fun W => by
    have := counted_any m W
    rw [show min (m : Int) 1073741824 = (K : Int) by omega] at this
    exact this
  have hK1 : 1 ≤ K := by omega
  have hK2 : K ≤ 1073741824 := by omega
  have HR := Lib.hid hrr
  clear hrr hK hcap hLc
  obtain ⟨X, hX⟩ : ∃ X, X = ((w.alloc (.cells #[.int .i64 (i : Int), .int .i64 (k : Int)] 24)).alloc (.cells #[.int .i64 0, .int .i64 0, .int .i64 0, .bool false, .int .i64 0] 32)).alloc (.cells #[.bool false] 4) := ⟨_, rfl⟩
  obtain ⟨hsX, e0, e1, e2, hbX⟩ := three_rows w (.cells #[.int .i64 (i : Int), .int .i64 (k : Int)] 24) (.cells #[.int .i64 0, .int .i64 0, .int .i64 0, .bool false, .int .i64 0] 32) (.cells #[.bool false] 4)
  rw [← hX] at hsX e0 e1 e2 hbX
  obtain ⟨A, hA⟩ : ∃ A, A = w.heap.size := ⟨_, rfl⟩
  rw [← hA] at e0 e1 e2
  have e0 : PosAt X A (i : Int) (k : Int) := e0
  have e1 : MvAt X (A + 1) 0 0 0 false 0 := e1
  have hAw : w.heap.size ≤ A := by omega
  have HX := Lib.hid (And.intro hX hA)
  have h1 := inside_any a n c' ls i k X (SrcV.below h hbX) hs
  rw [decide_eq_true hp] at h1
  have dn1 : decide ((m : Int) < 1) = false := decide_eq_false (by omega)
  have dn2 : decide (m < 1) = false := decide_eq_false (by omega)
  have HS := Lib.hid h
  have hwA : A ≤ w.heap.size := by omega
  have h0n : 0 < n := by omega
  have hla := fun W (hW : Below w.heap.size w W) => last_any a n c' ls true W (SrcV.below h hW) hs h0n
  have HLA := Lib.hid hla
  clear hla h
  have p0 := e0.c0
  have p1 := e0.c1
  have HE := Lib.hid (And.intro e0 (And.intro e1 (And.intro e2 hbX)))
  clear e0 e1 e2 hbX hX hA hp hk hkk hp0 hr
  refine (callsIn_wide (n := 9)).1 ?_
  refine callsIn_of_wp_marks Try.func22 rfl trivial ?_ rfl
  simp only [Try.ntmps22, List.size_toArray, List.length_cons, List.length_nil, Nat.reduceAdd, Nat.reduceSub, Array.replicate_succ, Array.replicate_zero, List.push_toArray, List.append_toArray, List.nil_append, List.cons_append]
  refine wpIn_mono (Q := noPanic _) ?_ (noPanic_out _)
  gi_wp2_with fail
  refine ⟨trivial, ?_⟩
  rw [← HX.out.1, ← HX.out.2]
  refine (callsIn_wide.2 h1).mono ?_
  rintro e w1 ⟨rfl, hb_w1⟩
  clear p0 p1 h1
  gi_wp2_with fail
  refine ⟨trivial, ?_⟩
  refine (callsIn_wide.2 (hct _)).mono ?_
  rintro e w' ⟨rfl, rfl⟩
  clear hct
  gi_wp2_with fail
  refine ⟨trivial, ?_⟩
  obtain ⟨M, hM⟩ : ∃ M, M = w1.heap.size := ⟨_, rfl⟩
  obtain ⟨x2, hx2⟩ : ∃ x, x = w1.alloc (.cells #[.int .i64 K] 3) := ⟨_, rfl⟩
  have hb2 : Below w1.heap.size w1 x2 := by rw [hx2]; exact (Below.refl _ _).alloc (Nat.le_refl _) _
  have hg2 : x2.heap[M]? = some (.cells #[.int .i64 K] 3 (0, 0)) := by rw [hx2, hM]; exact heap_alloc_new w1 _
  rw [← hx2, ← hM]
  obtain ⟨f0, f1, f2, f3⟩ := HE.out
  have hb12 := below_on hb_w1 hb2
  have hM2 : M < x2.heap.size := by rw [hx2, hM]; simp
  have hAM : A + 3 ≤ M := by have := hb_w1.size; omega
  have hMl : 0 < n → ∀ k, blk (.slice a n c') = some k → k ≠ M := fun h0 k hk e => by
    have := SrcV.blkLt HS.out (by omega) k hk
    omega
  have f3' := below_on f3 hb12
  refine (callsIn_wide.2 (sentences_keep a n c' ls M x2 (SrcV.below HS.out f3') hs hM2 hMl)).mono ?_
  rintro e Wi ⟨g, lb, rfl, hen, hit, hb3⟩
  have hb123 := below_on hb12 hb3
  have bi := below_on f3 hb123
  have f0 := f0.below hb123 f0.lt
  have f1 := f1.below hb123 f1.lt
  have f2 := (hb123.block _ (hlt f2)).trans f2
  have hg3 := (hb3.block M hM2).trans hg2
  have hMi : M < Wi.heap.size := hlt hg3
  have hxl : (sen ls).length ≤ 1000000 := Nat.le_trans (sen_tz ls) (by omega)
  clear hb2 hg2 hb3 hM hx2 hM2 f3 f3' hb12 hb123 hMl hb_w1 HE HX hsX
  have hi := True.intro
  generalize sen ls = xs at *
  gi_wp2_with fail
  refine rangeFunc_iter (by omega) (gf := g) (lb := lb) rfl hen hit
    (fun h1 h2 => h1.trans h2) (fun V l o o' hl ho _ _ => Fr.grown (Fr.refl _ V) (grownBy_putObj' V l o') (fun k e _ => by cases e; exact .inr hl)) (Below.refl _ _) (fun _ => rfl)
    (fun pre V => Sn w Wi A M (i, k) (K - (aft pre (i, k)).length) V ∧ (aft pre (i, k)).length < K)
    (fun c pre V => c = .ret ∧ Kn w Wi V ∧ ∃ p0 x, pre = p0 ++ [x] ∧ lp (i, k) x = true ∧ (aft p0 (i, k)).length + 1 = K ∧ MvAt V (A + 1) x.1 x.2 0 true (-1) ∧ V.heap[A + 2]? = some (.cells #[.bool true] 4 (0, 0))) ?hI ?hIx ⟨⟨Fr.refl _ _, f0, f1, f2, hg3⟩, by show 0 < K; omega⟩ ?round ?done ?stop
  case hI => exact fun s A' B row hs hg hr => ⟨hs.1.grown (B := Wi.heap.size) hAM hMi bi.size hg hr, hs.2⟩
  case hIx =>
    rintro c s A' B row ⟨h1, h2, p0, x, h3, h4, h5, h6, h7⟩ hg hr
    have hk : ∀ k, k < Wi.heap.size → k < A'.heap.size → B.heap[k]? = A'.heap[k]? := fun k hk hkA => hg.block k hkA (fun e => by have := (hr _ e.symm).1; omega)
    exact ⟨h1, own_kn (α := P2) bi.size s A' B row h2 hg hr, p0, x, h3, h4, h5, (hk _ (by omega) h6.lt).trans h6, (hk _ (by omega) (hlt h7)).trans h7⟩
  case stop =>
    rintro D c pre V hD ⟨rest, hpre⟩ hne ⟨rfl, hF, p0, x, rfl, hlx, hpl, hx, hb⟩ hk
    obtain ⟨⟨r0, hr0⟩, _⟩ := flt_yes (pr := fun q => lp (i, k) q) (xs := xs) (pre := p0) (rest := rest) (x := x) (by rw [← hpre]; simp) hlx
    have hrq : r = ⟨x.1, x.2, 0, true, -1, true⟩ := by
      rw [HR.out, snV_yes (l := aft xs (i, k)) (pre := aft p0 (i, k)) (rest := r0) hr0 hpl]; rfl
    have HRQ := Lib.hid hrq
    have HN := Lib.hid (And.intro hF (And.intro hx hb))
    clear hF hx hb hrq hr0 hpre hne
    gi_wp2
    refine ⟨by simp, .inl ⟨_, _, rfl, run_takeDeferred hk, ?_⟩⟩
    obtain ⟨hF, hx, hb⟩ := HN.out
    have hDM : M < D := by omega
    refine ⟨_, results_mv_bool rfl _ _ (A + 1) (A + 2) x.1 x.2 0 (-1) true true rfl rfl ((World.putObj_heap_other (by omega)).trans hx) ((cell_of_row _ _ 0 _ _ _ ((World.putObj_heap_other (by omega)).trans hb)).trans (by simp)), by rw [HRQ.out], ?_⟩
    exact (Kn.below bi hF).grown (grownBy_putObj' _ D _) (Kn.below bi hF).size (fun k e => by cases e; omega)
  case done =>
    rintro D V hD ⟨hS, hlK⟩ hk
    obtain ⟨N, hN⟩ : ∃ N, N = (aft xs (i, k)).length := ⟨_, rfl⟩
    rw [← hN] at hS hlK
    obtain ⟨Lf, hLf⟩ : ∃ Lf, Lf = K - N := ⟨_, rfl⟩
    rw [← hLf] at hS
    have hcall := HLA.out V (Kn.below bi hS.kn)
    have HH := Lib.hid (And.intro hS hk)
    have HLf := Lib.hid (And.intro hLf (And.intro hlK hN))
    clear hS hk hlK hLf hN
    gi_wp2_with fail
    refine ⟨trivial, ?_⟩
    refine (callsIn_wide.2 hcall).mono ?_
    rintro e V5 ⟨rfl, hb5⟩
    clear hcall
    obtain ⟨te, hto⟩ : ∃ te : P2, te = lastP ls true := ⟨_, rfl⟩
    rw [← hto]
    have HTO := Lib.hid hto
    clear hto
    obtain ⟨V6, hV6⟩ : ∃ V6, V6 = V5.alloc (.cells #[.int .i64 te.1, .int .i64 te.2] 24) := ⟨_, rfl⟩
    have hb6 : Below V5.heap.size V5 V6 := by rw [hV6]; exact (Below.refl _ _).alloc (Nat.le_refl _) _
    have hG : PosAt V6 V5.heap.size te.1 te.2 := by rw [hV6]; exact PosAt.new V5 _ _
    obtain ⟨G, hGe⟩ : ∃ G, G = V5.heap.size := ⟨_, rfl⟩
    rw [← hGe] at hG
    have hb56 := below_on hb5 hb6
    have S6 := HH.out.1.below hb56
    have k6 := (hb56.block D (hlt HH.out.2)).trans HH.out.2
    have H6 := Lib.hid (And.intro S6 (And.intro k6 hG))
    have n0 : V6.cell? ⟨M, 0, none⟩ = some (.int .i64 (Lf : Int)) := (cell_of_row V6 _ 0 _ _ _ S6.lf).trans (by simp)
    have hAG : A + 3 ≤ G := by have := hb5.size; have := hlt HH.out.1.lf; omega
    clear hb5 hb6 hb56 hG k6 HH
    subst hGe
    subst hV6
    by_cases h1 : Lf = 1
    · have d1 : ((Lf : Int) == 1) = true := by rw [beq_iff_eq]; omega
      cases past
      · have hrq : r = R.no := by rw [HR.out, snV_no (by have := HLf.out; omega) (fun hh => by cases hh.2.1)]; rfl
        have HRQ := Lib.hid hrq
        have m0 := S6.mv.c0
        have m1 := S6.mv.c1
        have m2 := S6.mv.c2
        have m3 := S6.mv.c3
        have m4 := S6.mv.c4
        have z := S6.mv.z
        have b0 : (V5.alloc (.cells #[.int .i64 te.1, .int .i64 te.2] 24)).cell? ⟨A + 2, 0, none⟩ = some (.bool false) := (cell_of_row (V5.alloc (.cells #[.int .i64 te.1, .int .i64 te.2] 24)) _ 0 _ _ _ S6.bl).trans (by simp)
        have bz := frozen_of_row (V5.alloc (.cells #[.int .i64 te.1, .int .i64 te.2] 24)) (A + 2) 0 _ _ S6.bl
        clear S6 hrq h1
        gi_wp2_with (refine ⟨trivial, ?_⟩)
        obtain ⟨S6, k6, hG⟩ := H6.out
        have e1 := (S6.mv.put 0 0 0 0 false).other (g' := A + 2) (k := 0) (v := .bool false) (by omega)
        have e2 := (heap_setCell_same _ (A + 2) 0 _ _ (.bool false) ((put5_other (w := (V5.alloc (.cells #[.int .i64 te.1, .int .i64 te.2] 24))) (l := 0) (c := 0) (wy := 0) (j := false) (want := 0) (g := A + 1) (by omega)).trans S6.bl))
        have e3 : ((put5 (V5.alloc (.cells #[.int .i64 te.1, .int .i64 te.2] 24)) (A + 1) 0 0 0 false 0).setCell ⟨A + 2, 0, none⟩ (.bool false)).heap[D]? = some (.deferred (some [])) := (Below.heap_setCell _ _ _ _ (by simp; omega)).trans ((put5_other (by omega)).trans k6)
        have e4 := (put5_below (Kn.below bi S6.kn) (g := A + 1) (by omega) 0 0 0 0 false).setCell (p := ⟨A + 2, 0, none⟩) (by simp; omega) (.bool false)
        refine ⟨by simp, .inl ⟨_, _, rfl, run_takeDeferred e3, ?_⟩⟩
        refine ⟨_, results_mv_bool rfl _ _ (A + 1) (A + 2) 0 0 0 0 false false rfl rfl ((World.putObj_heap_other (by omega)).trans e1) ((cell_of_row _ _ 0 _ _ _ ((World.putObj_heap_other (by omega)).trans e2)).trans (by simp)), ?_, ?_⟩
        · rw [HRQ.out] <;> rfl
        · exact e4.grown (grownBy_putObj' _ D _) e4.size (fun k e => by cases e; omega)
      · have q0 := S6.pos.c0
        have q1 := S6.pos.c1
        have g0 := H6.out.2.2.c0
        have g1 := H6.out.2.2.c1
        have hls := So.less_any i k te.1 te.2 (V5.alloc (.cells #[.int .i64 te.1, .int .i64 te.2] 24))
        clear S6
        cases hlp : lp (i, k) te
        · rw [show So.lt i k te.1 te.2 = false from hlp] at hls
          have hrq : r = R.no := by rw [HR.out, snV_no (by have := HLf.out; omega) (fun hh => by rw [← HTO.out, hlp] at hh; cases hh.2.2)]; rfl
          have HRQ := Lib.hid hrq
          clear hlp hrq h1
          gi_wp2_with fail
          refine ⟨trivial, ?_⟩
          refine (callsIn_wide.2 hls).mono ?_
          rintro e V7 ⟨rfl, hb7⟩
          have S7 := H6.out.1.below hb7
          have k7 := (hb7.block D (hlt H6.out.2.1)).trans H6.out.2.1
          have H7 := Lib.hid (And.intro S7 k7)
          have m0 := S7.mv.c0
          have m1 := S7.mv.c1
          have m2 := S7.mv.c2
          have m3 := S7.mv.c3
          have m4 := S7.mv.c4
          have z := S7.mv.z
          have b0 : V7.cell? ⟨A + 2, 0, none⟩ = some (.bool false) := (cell_of_row V7 _ 0 _ _ _ S7.bl).trans (by simp)
          have bz := frozen_of_row V7 (A + 2) 0 _ _ S7.bl
          clear S7 k7 hb7 hls n0 q0 q1 g0 g1
          gi_wp2
          obtain ⟨S7, k7⟩ := H7.out
          have e1 := (S7.mv.put 0 0 0 0 false).other (g' := A + 2) (k := 0) (v := .bool false) (by omega)
          have e2 := (heap_setCell_same _ (A + 2) 0 _ _ (.bool false) ((put5_other (w := V7) (l := 0) (c := 0) (wy := 0) (j := false) (want := 0) (g := A + 1) (by omega)).trans S7.bl))
          have e3 : ((put5 V7 (A + 1) 0 0 0 false 0).setCell ⟨A + 2, 0, none⟩ (.bool false)).heap[D]? = some (.deferred (some [])) := (Below.heap_setCell _ _ _ _ (by simp; omega)).trans ((put5_other (by omega)).trans k7)
          have e4 := (put5_below (Kn.below bi S7.kn) (g := A + 1) (by omega) 0 0 0 0 false).setCell (p := ⟨A + 2, 0, none⟩) (by simp; omega) (.bool false)
          refine ⟨by simp, .inl ⟨_, _, rfl, run_takeDeferred e3, ?_⟩⟩
          refine ⟨_, results_mv_bool rfl _ _ (A + 1) (A + 2) 0 0 0 0 false false rfl rfl ((World.putObj_heap_other (by omega)).trans e1) ((cell_of_row _ _ 0 _ _ _ ((World.putObj_heap_other (by omega)).trans e2)).trans (by simp)), ?_, ?_⟩
          · rw [HRQ.out] <;> rfl
          · exact e4.grown (grownBy_putObj' _ D _) e4.size (fun k e => by cases e; omega)
        · rw [show So.lt i k te.1 te.2 = true from hlp] at hls
          have hrq : r = ⟨te.1, te.2, 0, true, -1, true⟩ := by rw [HR.out, snV_end (by have := HLf.out; omega) rfl (by rw [← HTO.out]; exact hlp), ← HTO.out]; rfl
          have HRQ := Lib.hid hrq
          have hj := fun W => jump_any te.1 te.2 W
          clear hlp hrq h1
          gi_wp2_with fail
          refine ⟨trivial, ?_⟩
          refine (callsIn_wide.2 hls).mono ?_
          rintro e V7 ⟨rfl, hb7⟩
          have S7 := H6.out.1.below hb7
          have k7 := (hb7.block D (hlt H6.out.2.1)).trans H6.out.2.1
          have hG7 := H6.out.2.2.below hb7 H6.out.2.2.lt
          have g0 := hG7.c0
          have g1 := hG7.c1
          have H7 := Lib.hid (And.intro S7 k7)
          clear S7 k7 hb7 hls n0 q0 q1 hG7
          gi_wp2_with fail
          refine ⟨trivial, ?_⟩
          refine (callsIn_wide.2 (hj _)).mono ?_
          rintro e V8 ⟨rfl, hb8⟩
          have S8 := H7.out.1.below hb8
          have k8 := (hb8.block D (hlt H7.out.2)).trans H7.out.2
          have H8 := Lib.hid (And.intro S8 k8)
          have m0 := S8.mv.c0
          have m1 := S8.mv.c1
          have m2 := S8.mv.c2
          have m3 := S8.mv.c3
          have m4 := S8.mv.c4
          have z := S8.mv.z
          have b0 : V8.cell? ⟨A + 2, 0, none⟩ = some (.bool false) := (cell_of_row V8 _ 0 _ _ _ S8.bl).trans (by simp)
          have bz := frozen_of_row V8 (A + 2) 0 _ _ S8.bl
          clear S8 k8 hb8 hj g0 g1
          gi_wp2
          obtain ⟨S8, k8⟩ := H8.out
          have e1 := (S8.mv.put te.1 te.2 0 (-1) true).other (g' := A + 2) (k := 0) (v := .bool true) (by omega)
          have e2 := (heap_setCell_same _ (A + 2) 0 _ _ (.bool true) ((put5_other (w := V8) (l := te.1) (c := te.2) (wy := 0) (j := true) (want := (-1)) (g := A + 1) (by omega)).trans S8.bl))
          have e3 : ((put5 V8 (A + 1) te.1 te.2 0 true (-1)).setCell ⟨A + 2, 0, none⟩ (.bool true)).heap[D]? = some (.deferred (some [])) := (Below.heap_setCell _ _ _ _ (by simp; omega)).trans ((put5_other (by omega)).trans k8)
          have e4 := (put5_below (Kn.below bi S8.kn) (g := A + 1) (by omega) te.1 te.2 0 (-1) true).setCell (p := ⟨A + 2, 0, none⟩) (by simp; omega) (.bool true)
          refine ⟨by simp, .inl ⟨_, _, rfl, run_takeDeferred e3, ?_⟩⟩
          refine ⟨_, results_mv_bool rfl _ _ (A + 1) (A + 2) te.1 te.2 0 (-1) true true rfl rfl ((World.putObj_heap_other (by omega)).trans e1) ((cell_of_row _ _ 0 _ _ _ ((World.putObj_heap_other (by omega)).trans e2)).trans (by simp)), ?_, ?_⟩
          · rw [HRQ.out] <;> rfl
          · exact e4.grown (grownBy_putObj' _ D _) e4.size (fun k e => by cases e; omega)
    · have d1 : ((Lf : Int) == 1) = false := by rw [beq_eq_false_iff_ne]; omega
      have hrq : r = R.no := by rw [HR.out, snV_no (by have := HLf.out; omega) (fun hh => by have := HLf.out; omega)]; rfl
      have HRQ := Lib.hid hrq
      have m0 := S6.mv.c0
      have m1 := S6.mv.c1
      have m2 := S6.mv.c2
      have m3 := S6.mv.c3
      have m4 := S6.mv.c4
      have z := S6.mv.z
      have b0 : (V5.alloc (.cells #[.int .i64 te.1, .int .i64 te.2] 24)).cell? ⟨A + 2, 0, none⟩ = some (.bool false) := (cell_of_row (V5.alloc (.cells #[.int .i64 te.1, .int .i64 te.2] 24)) _ 0 _ _ _ S6.bl).trans (by simp)
      have bz := frozen_of_row (V5.alloc (.cells #[.int .i64 te.1, .int .i64 te.2] 24)) (A + 2) 0 _ _ S6.bl
      clear S6 hrq h1
      gi_wp2_with (refine ⟨trivial, ?_⟩)
      obtain ⟨S6, k6, hG⟩ := H6.out
      have e1 := (S6.mv.put 0 0 0 0 false).other (g' := A + 2) (k := 0) (v := .bool false) (by omega)
      have e2 := (heap_setCell_same _ (A + 2) 0 _ _ (.bool false) ((put5_other (w := (V5.alloc (.cells #[.int .i64 te.1, .int .i64 te.2] 24))) (l := 0) (c := 0) (wy := 0) (j := false) (want := 0) (g := A + 1) (by omega)).trans S6.bl))
      have e3 : ((put5 (V5.alloc (.cells #[.int .i64 te.1, .int .i64 te.2] 24)) (A + 1) 0 0 0 false 0).setCell ⟨A + 2, 0, none⟩ (.bool false)).heap[D]? = some (.deferred (some [])) := (Below.heap_setCell _ _ _ _ (by simp; omega)).trans ((put5_other (by omega)).trans k6)
      have e4 := (put5_below (Kn.below bi S6.kn) (g := A + 1) (by omega) 0 0 0 0 false).setCell (p := ⟨A + 2, 0, none⟩) (by simp; omega) (.bool false)
      refine ⟨by simp, .inl ⟨_, _, rfl, run_takeDeferred e3, ?_⟩⟩
      refine ⟨_, results_mv_bool rfl _ _ (A + 1) (A + 2) 0 0 0 0 false false rfl rfl ((World.putObj_heap_other (by omega)).trans e1) ((cell_of_row _ _ 0 _ _ _ ((World.putObj_heap_other (by omega)).trans e2)).trans (by simp)), ?_, ?_⟩
      · rw [HRQ.out] <;> rfl
      · exact e4.grown (grownBy_putObj' _ D _) e4.size (fun k e => by cases e; omega)
  case round =>
    rintro l' pre x V0 ⟨rest, hpr⟩ hsz0 ⟨hS0, hl0⟩
    dsimp only [encp]
    have HI0 := Lib.hid (And.intro hS0 hl0)
    clear hS0 hl0
    gi_wp2
    refine ⟨(Keep.refl _ _ _).alloc _ hsz0, (Fr.refl _ _).alloc _, ⟨HI0.out.1.below ((Below.refl _ V0).alloc (Nat.le_refl _) _), HI0.out.2⟩, ?_⟩
    rintro V hgr hl - hszV ⟨hS, hlK⟩
    obtain ⟨QB, hQB⟩ : ∃ QB, QB = V0.heap.size := ⟨_, rfl⟩
    have gq : PosAt V QB x.1 x.2 := by
      rw [hQB]
      exact (hgr.block _ (by simp) (by intro e; injection e with e; omega)).trans (heap_alloc_new V0 _)
    rw [← hQB]
    have hQM : M + 1 ≤ QB := by omega
    have p0 := hS.pos.c0
    have p1 := hS.pos.c1
    have q0 := gq.c0
    have q1 := gq.c1
    have hls := So.less_any i k x.1 x.2 V
    have HV := Lib.hid (And.intro hS (And.intro hlK gq))
    clear hgr hl hS hlK gq hQB HI0
    cases hlp : lp (i, k) x
    · rw [show So.lt i k x.1 x.2 = false from hlp] at hls
      gi_wp2_with fail
      refine ⟨trivial, ?_⟩
      refine (CallsIn.inRound l' (callsIn_wide.2 hls)).mono ?_
      rintro e V2 ⟨rfl, hb2⟩
      clear hls p0 p1 q0 q1
      gi_wp2
      have hfl : aft (pre ++ [x]) (i, k) = aft pre (i, k) := flt_no (by exact hlp)
      refine ⟨Keep.ofFr (Fr.ofBelow hb2 (fun _ => False)) hszV (fun k e => e.elim), Fr.ofBelow hb2 _, ?_⟩
      show Sn w Wi A M (i, k) (K - (aft (pre ++ [x]) (i, k)).length) V2 ∧ (aft (pre ++ [x]) (i, k)).length < K
      rw [hfl]
      exact ⟨HV.out.1.below hb2, HV.out.2.1⟩
    · rw [show So.lt i k x.1 x.2 = true from hlp] at hls
      gi_wp2_with fail
      refine ⟨trivial, ?_⟩
      refine (CallsIn.inRound l' (callsIn_wide.2 hls)).mono ?_
      rintro e V2 ⟨rfl, hb2⟩
      clear hls p0 p1 q0 q1
      have S2 := HV.out.1.below hb2
      have gq2 := HV.out.2.2.below hb2 HV.out.2.2.lt
      have hlK := HV.out.2.1
      obtain ⟨N, hN⟩ : ∃ N, N = (aft pre (i, k)).length := ⟨_, rfl⟩
      rw [← hN] at S2 hlK
      have hfl : (aft (pre ++ [x]) (i, k)).length = N + 1 := by
        have := (flt_yes (pr := fun q => lp (i, k) q) hpr hlp).2
        rw [show aft (pre ++ [x]) (i, k) = aft pre (i, k) ++ [x] from this, List.length_append, ← hN]; rfl
      obtain ⟨rr, hrr⟩ : ∃ rr, K - N = rr + 1 := ⟨K - N - 1, by omega⟩
      rw [hrr] at S2
      have n0 : V2.cell? ⟨M, 0, none⟩ = some (.int .i64 ((rr + 1 : Nat) : Int)) := (cell_of_row V2 _ 0 _ _ _ S2.lf).trans (by simp)
      have nz := frozen_of_row V2 M 0 _ _ S2.lf
      have hw : IntKind.i64.wrap (((rr + 1 : Nat) : Int) - 1) = (rr : Int) := by rw [IntKind.wrap_i64]; omega
      obtain ⟨Y, hY⟩ : ∃ Y : Nat, Y = rr + 1 := ⟨_, rfl⟩
      rw [← hY] at n0 hw
      have H2 := Lib.hid (And.intro S2 (And.intro gq2 (And.intro hb2 (And.intro hrr (And.intro hN hfl)))))
      have hwM : w.heap.size ≤ M := by omega
      have hQB2 : QB < V2.heap.size := gq2.lt
      clear S2 gq2 hb2 hN hrr hfl hY hlK
      rcases Nat.eq_zero_or_pos rr with hr0 | hr0
      · have d1 : ((rr : Int) == 0) = true := by rw [beq_iff_eq]; omega
        have HR0 := Lib.hid hr0
        clear hr0
        have hj := fun W => jump_any x.1 x.2 W
        obtain ⟨V3, hV3⟩ : ∃ V3, V3 = V2.setCell ⟨M, 0, none⟩ (.int .i64 rr) := ⟨_, rfl⟩
        have S3 : Sn w Wi A M (i, k) rr V3 := by rw [hV3]; exact H2.out.1.set hAM hwM rr
        have f3 : Fr (fun k => k = M) V2 V3 := by rw [hV3]; exact (Fr.refl (fun k => k = M) V2).setCell (p := ⟨M, 0, none⟩) (fun _ => rfl) _
        have x0 := H2.out.2.1.c0
        have x1 := H2.out.2.1.c1
        have H3 := Lib.hid (And.intro S3 f3)
        have HV3 := Lib.hid hV3
        clear S3 f3 hV3
        gi_wp2_with fail
        refine ⟨trivial, ?_⟩
        rw [← HV3.out]
        refine (CallsIn.inRound l' (callsIn_wide.2 (hj _))).mono ?_
        rintro e V4 ⟨rfl, hb4⟩
        have S4 := H3.out.1.below hb4
        have m0 := S4.mv.c0
        have m1 := S4.mv.c1
        have m2 := S4.mv.c2
        have m3 := S4.mv.c3
        have m4 := S4.mv.c4
        have z := S4.mv.z
        have b0 : V4.cell? ⟨A + 2, 0, none⟩ = some (.bool false) := (cell_of_row V4 _ 0 _ _ _ S4.bl).trans (by simp)
        have bz := frozen_of_row V4 (A + 2) 0 _ _ S4.bl
        have H4 := Lib.hid (And.intro S4 hb4)
        clear S4 hb4 hj n0 nz x0 x1
        gi_wp2
        obtain ⟨S4, hb4⟩ := H4.out
        have hk4 : Keep Wi.heap.size (Wi.heap.size + 2 + 0) V V4 := (Keep.ofFr (Fr.ofBelow H2.out.2.2.1 (fun _ => False)) hszV (fun k e => e.elim)).trans ((Keep.ofFr H3.out.2 (by have := H2.out.2.2.1.size; omega) (fun k e => .inl (by omega))).trans (Keep.ofFr (Fr.ofBelow hb4 (fun _ => False)) (by have := H2.out.2.2.1.size; have := H3.out.2.size; omega) (fun k e => e.elim)))
        refine ⟨?_, rfl, ?_, pre, x, rfl, hlp, ?_, ?_, ?_⟩
        · exact (((((hk4.setCell (p := ⟨A + 1, 0, none⟩) (by simp; omega) _).setCell (p := ⟨A + 1, 1, none⟩) (by simp; omega) _).setCell (p := ⟨A + 1, 2, none⟩) (by simp; omega) _).setCell (p := ⟨A + 1, 3, none⟩) (by simp; omega) _).setCell (p := ⟨A + 1, 4, none⟩) (by simp; omega) _).setCell (p := ⟨A + 2, 0, none⟩) (by simp; omega) _
        · exact (((((S4.kn.setCell (p := ⟨A + 1, 0, none⟩) (fun _ => by show w.heap.size ≤ A + 1; omega) _).setCell (p := ⟨A + 1, 1, none⟩) (fun _ => by show w.heap.size ≤ A + 1; omega) _).setCell (p := ⟨A + 1, 2, none⟩) (fun _ => by show w.heap.size ≤ A + 1; omega) _).setCell (p := ⟨A + 1, 3, none⟩) (fun _ => by show w.heap.size ≤ A + 1; omega) _).setCell (p := ⟨A + 1, 4, none⟩) (fun _ => by show w.heap.size ≤ A + 1; omega) _).setCell (p := ⟨A + 2, 0, none⟩) (fun _ => by show w.heap.size ≤ A + 2; omega) _
        · have h5 := H2.out.2.2.2
          have h0 := HR0.out
          omega
        · exact (S4.mv.put x.1 x.2 0 (-1) true).other (by omega)
        · exact (heap_setCell_same _ (A + 2) 0 _ _ (.bool true) ((put5_other (w := V4) (l := x.1) (c := x.2) (wy := 0) (j := true) (want := -1) (g := A + 1) (by omega)).trans S4.bl)).trans (by simp)
      · have d1 : ((rr : Int) == 0) = false := by rw [beq_eq_false_iff_ne]; omega
        gi_wp2
        obtain ⟨S2, gq2, hb2, hrr, hN, hfl⟩ := H2.out
        have f3 : Fr (fun k => k = M) V2 (V2.setCell ⟨M, 0, none⟩ (.int .i64 rr)) := (Fr.refl (fun k => k = M) V2).setCell (p := ⟨M, 0, none⟩) (fun _ => rfl) _
        refine ⟨(Keep.ofFr (Fr.ofBelow hb2 (fun _ => False)) hszV (fun k e => e.elim)).trans (Keep.ofFr f3 (by have := hb2.size; omega) (fun k e => .inl (by omega))), (Fr.ofBelow hb2 _).trans (f3.mono (fun i _ e => .inl e)), ?_⟩
        show Sn w Wi A M (i, k) (K - (aft (pre ++ [x]) (i, k)).length) _ ∧ (aft (pre ++ [x]) (i, k)).length < K
        rw [hfl, show K - (N + 1) = rr by omega]
        exact ⟨S2.set hAM hwM rr, by omega⟩


end Go.Proofs.Ytpdbfdhfonfbeaa.Pa
