/-
  Package find: Search.
-/
import Derived.Test.YthlneojhkhhmbaaFi
import Derived.Test.YthlneojhkhhmbaaFg
set_option linter.unusedVariables false
set_option linter.unusedSimpArgs false
set_option maxRecDepth 100000
namespace Go.Proofs.Ythlneojhkhhmbaa.Fd
open Go Go.RowKit Go.Proofs.Ythlneojhkhhmbaa.Vk Go.Proofs.Ythlneojhkhhmbaa.Str Go.Proofs.Ythlneojhkhhmbaa.Ln Go.Proofs.Ythlneojhkhhmbaa.Cl Go.Proofs.Ythlneojhkhhmbaa.Mv Go.Proofs.Ythlneojhkhhmbaa.Wd Go.Shelf
attribute [local go_sem] Oper.semAt_some

/-- The first three variables of a search: the place, the direction, the answer. -/
structure Thr (w W : World) (l c : Int) (back : Bool) : Prop where
  below : Below w.heap.size w W
  size : w.heap.size + 3 ≤ W.heap.size
  pos : PosAt W w.heap.size l c
  bk : W.heap[w.heap.size + 1]? = some (.cells #[.bool back] 4 (0, 0))
  mv : MvAt W (w.heap.size + 2) 0 0 0 false 0
theorem Thr.new (w : World) (l c : Int) (back : Bool) : Thr w (((w.alloc (.cells #[.int .i64 l, .int .i64 c] 27)).alloc (.cells #[.bool back] 4)).alloc (.cells #[.int .i64 0, .int .i64 0, .int .i64 0, .bool false, .int .i64 0] 40)) l c back := by
  obtain ⟨h1, h2, h3, h4, h5⟩ := three_rows w (.cells #[.int .i64 l, .int .i64 c] 27) (.cells #[.bool back] 4) (.cells #[.int .i64 0, .int .i64 0, .int .i64 0, .bool false, .int .i64 0] 40)
  exact ⟨h5, Nat.le_of_eq h1.symm, h2, h3, h4⟩
theorem Thr.on {w W W' : World} {l c : Int} {back : Bool} (h : Thr w W l c back) (hb : Below W.heap.size W W') : Thr w W' l c back :=
  ⟨h.below.trans (hb.mono h.below.size), Nat.le_trans h.size hb.size, h.pos.below hb h.pos.lt, (hb.block _ (Array.getElem?_eq_some_iff.1 h.bk).1).trans h.bk, h.mv.below hb h.mv.lt⟩
theorem Thr.bc {w W : World} {l c : Int} {back : Bool} (h : Thr w W l c back) : W.cell? ⟨w.heap.size + 1, 0, none⟩ = some (.bool back) := (cell_of_row W _ 0 _ _ _ h.bk).trans (by simp)
theorem Thr.ret {w W : World} {l c : Int} {back : Bool} (h : Thr w W l c back) (a b d want : Int) (j : Bool) : MvAt (put5 W (w.heap.size + 2) a b d j want) (w.heap.size + 2) a b d j want ∧ Below w.heap.size w (put5 W (w.heap.size + 2) a b d j want) :=
  ⟨h.mv.put _ _ _ _ _, put5_below h.below (by omega) _ _ _ _ _⟩

/-- What stands between the rounds: the place at A, the direction, the answer behind it; the places at M, their number ahead behind it. -/
def Sb (w Wi : World) (A M D F : Nat) (p : P2) (back : Bool) (l : List P2) (V : World) : Prop :=
  Kn w Wi V ∧ PosAt V A p.1 p.2 ∧ V.heap[A + 1]? = some (.cells #[.bool back] 4 (0, 0)) ∧ MvAt V (A + 2) 0 0 0 false 0 ∧ GotP M D l V ∧ V.heap[M + 1]? = some (.cells #[.int .i64 F] 3 (0, 0))
theorem Sb.grown {w Wi : World} {A M D F B : Nat} {p : P2} {back : Bool} {l : List P2} {V V' : World} {row : Option Nat} (h : Sb w Wi A M D F p back l V) (hA : A + 3 ≤ B) (hM : M + 2 ≤ B) (hB : w.heap.size ≤ B) (hg : V.grownBy V' row) (hr : ∀ r, row = some r → B ≤ r ∧ ∃ o : Obj, V.heap[r]? = some o ∧ o.isCells = false) : Sb w Wi A M D F p back l V' := by
  obtain ⟨h1, h2, h3, h4, h5, h6⟩ := h
  have hk : ∀ k, k < B → k < V.heap.size → V'.heap[k]? = V.heap[k]? := fun k hk hkA => hg.block k hkA (fun e => by have := (hr _ e.symm).1; omega)
  exact ⟨own_kn (α := P2) hB [] V V' row h1 hg hr, (hk _ (by omega) h2.lt).trans h2, (hk _ (by omega) (Array.getElem?_eq_some_iff.1 h3).1).trans h3, (hk _ (by omega) h4.lt).trans h4, h5.grown (B := B) (by omega) hg hr, (hk _ (by omega) (Array.getElem?_eq_some_iff.1 h6).1).trans h6⟩
theorem Sb.below {w Wi : World} {A M D F : Nat} {p : P2} {back : Bool} {l : List P2} {V V' : World} (h : Sb w Wi A M D F p back l V) (hb : Below V.heap.size V V') : Sb w Wi A M D F p back l V' :=
  ⟨h.1.trans (Fr.ofBelow hb _), h.2.1.below hb h.2.1.lt, (hb.block _ (Array.getElem?_eq_some_iff.1 h.2.2.1).1).trans h.2.2.1, h.2.2.2.1.below hb h.2.2.2.1.lt, h.2.2.2.2.1.below hb, (hb.block _ (Array.getElem?_eq_some_iff.1 h.2.2.2.2.2).1).trans h.2.2.2.2.2⟩

theorem Sb.inc {w Wi : World} {A M D F : Nat} {p : P2} {back : Bool} {l : List P2} {V : World} (h : Sb w Wi A M D F p back l V) (F1 : Nat) (hD : M + 2 ≤ D) (hA : A + 3 ≤ M) (hw : w.heap.size ≤ A) : Sb w Wi A M D F1 p back l (V.setCell ⟨M + 1, 0, none⟩ (.int .i64 F1)) := by
  obtain ⟨h1, h2, h3, h4, ⟨b, cc, g1, g2⟩, h6⟩ := h
  refine ⟨h1.trans ((Fr.refl _ V).setCell (p := ⟨M + 1, 0, none⟩) (fun _ => (by show w.heap.size ≤ M + 1; omega)) _), h2.other (by omega), (Below.heap_setCell _ _ _ _ (show A + 1 ≠ M + 1 by omega)).trans h3, h4.other (by omega), ⟨b, cc, (Below.heap_setCell _ _ _ _ (show M ≠ M + 1 by omega)).trans g1, ?_⟩, ?_⟩
  · exact ownsRow_fr g2 ((Fr.refl (fun k => k = M + 1) V).setCell (p := ⟨M + 1, 0, none⟩) (fun _ => rfl) _) (fun i hi e => by have := (g2.lt i hi).1; omega)
  · exact (heap_setCell_same V (M + 1) 0 _ _ _ h6).trans (by simp)
theorem fr0_yes {l : List P2} {p x : P2} {back : Bool} (h : cnd p back x = true) : fr0 (l ++ [x]) p back = fr0 l p back + 1 := by
  unfold fr0; rw [List.filter_append, List.filter_cons_of_pos h, List.length_append]; rfl
theorem fr0_no {l : List P2} {p x : P2} {back : Bool} (h : cnd p back x = false) : fr0 (l ++ [x]) p back = fr0 l p back := by
  unfold fr0; rw [List.filter_append, List.filter_cons_of_neg (by rw [h]; simp), List.length_append]; rfl

set_option maxHeartbeats 16000000 in
theorem search_any (a : Option Addr) (n c' : Nat) (ls : List ByteArray) (l c : Int) (pt : ByteArray) (back : Bool) (nn : Int) (w : World) (h : Ss w a n c' ls) (hs : ∀ s ∈ ls, s.size ≤ 140737488355328) (hn6 : n ≤ 1000000) (htz : tz ls ≤ 900000) :
    Calls Try.prog 16 #[.slice a n c', .agg #[.int .i64 l, .int .i64 c], .string pt, .bool back, .int .i64 nn] w fun e w' => e = .returned (srR pt ls l c nn back).v ∧ Below w.heap.size w w' := by
  have hlen := h.length
  have hn := h.le63
  by_cases hpk : Plc ls l c ∧ 1 ≤ nn
  rotate_left
  · by_cases hp : Plc ls l c
    · have hk : ¬ 1 ≤ nn := fun hh => hpk ⟨hp, hh⟩
      have hr : srR pt ls l c nn back = R.no := ifm_no fun hh => hk hh.2
      rw [hr]
      obtain ⟨X, hX⟩ : ∃ X, X = (((w.alloc (.cells #[.int .i64 l, .int .i64 c] 27)).alloc (.cells #[.bool back] 4)).alloc (.cells #[.int .i64 0, .int .i64 0, .int .i64 0, .bool false, .int .i64 0] 40)) := ⟨_, rfl⟩
      have hT : Thr w X l c back := by rw [hX]; exact Thr.new w l c back
      have HX := Lib.hid hX
      have h1 := inside_any a n c' ls l c X (SrcV.below h hT.below) hs
      rw [decide_eq_true hp] at h1
      have dn1 : decide (nn < 1) = true := decide_eq_true (by omega)
      clear hk hp
      have p0 := hT.pos.c0
      have p1 := hT.pos.c1
      have b0 := hT.bc
      have m0 := hT.mv.c0
      have m1 := hT.mv.c1
      have m2 := hT.mv.c2
      have m3 := hT.mv.c3
      have m4 := hT.mv.c4
      have z := hT.mv.z
      clear hr hX h hpk
      go_enter Try.func16, Try.ntmps16
      go_wp2_with fail
      rw [← HX.out]
      refine h1.mono ?_
      rintro e w1 ⟨rfl, hb_w1⟩
      have T1 := hT.on hb_w1
      clear p0 p1 b0 m0 m1 m2 m3 m4 z h1
      have p0 := T1.pos.c0
      have p1 := T1.pos.c1
      have b0 := T1.bc
      have m0 := T1.mv.c0
      have m1 := T1.mv.c1
      have m2 := T1.mv.c2
      have m3 := T1.mv.c3
      have m4 := T1.mv.c4
      have z := T1.mv.z
      go_wp2
      obtain ⟨hg, hb⟩ := T1.ret 0 0 0 0 false
      exact ret_mv (r := R.no) (g := w.heap.size + 2) rfl rfl rfl rfl hg ⟨rfl, hb⟩
    · have hr : srR pt ls l c nn back = R.no := ifm_no fun hh => hp hh.1
      rw [hr]
      obtain ⟨X, hX⟩ : ∃ X, X = (((w.alloc (.cells #[.int .i64 l, .int .i64 c] 27)).alloc (.cells #[.bool back] 4)).alloc (.cells #[.int .i64 0, .int .i64 0, .int .i64 0, .bool false, .int .i64 0] 40)) := ⟨_, rfl⟩
      have hT : Thr w X l c back := by rw [hX]; exact Thr.new w l c back
      have HX := Lib.hid hX
      have h1 := inside_any a n c' ls l c X (SrcV.below h hT.below) hs
      rw [decide_eq_false hp] at h1
      clear hp
      have p0 := hT.pos.c0
      have p1 := hT.pos.c1
      have b0 := hT.bc
      have m0 := hT.mv.c0
      have m1 := hT.mv.c1
      have m2 := hT.mv.c2
      have m3 := hT.mv.c3
      have m4 := hT.mv.c4
      have z := hT.mv.z
      clear hr hX h hpk
      go_enter Try.func16, Try.ntmps16
      go_wp2_with fail
      rw [← HX.out]
      refine h1.mono ?_
      rintro e w1 ⟨rfl, hb_w1⟩
      have T1 := hT.on hb_w1
      clear p0 p1 b0 m0 m1 m2 m3 m4 z h1
      have p0 := T1.pos.c0
      have p1 := T1.pos.c1
      have b0 := T1.bc
      have m0 := T1.mv.c0
      have m1 := T1.mv.c1
      have m2 := T1.mv.c2
      have m3 := T1.mv.c3
      have m4 := T1.mv.c4
      have z := T1.mv.z
      go_wp2
      obtain ⟨hg, hb⟩ := T1.ret 0 0 0 0 false
      exact ret_mv (r := R.no) (g := w.heap.size + 2) rfl rfl rfl rfl hg ⟨rfl, hb⟩
  obtain ⟨hp, hk⟩ := hpk
  have hp0 := hp
  obtain ⟨i, k, rfl, rfl, hi, hkk⟩ := hp0.nat
  obtain ⟨m, rfl⟩ : ∃ m : Nat, nn = m := ⟨nn.toNat, by omega⟩
  have hm1 : 1 ≤ m := by omega
  have hr : srR pt ls i k m back = jmp (srL (pls pt ls) (i, k) back m) := ifm_yes hp hm1
  rw [hr]
  obtain ⟨r, hrr⟩ : ∃ r, r = jmp (srL (pls pt ls) (i, k) back m) := ⟨_, rfl⟩
  rw [← hrr]
  have HR := Lib.hid hrr
  clear hrr
  obtain ⟨i0, hi0, hz0, hz1', hz2'⟩ := info_parts infoP
  obtain ⟨K, hK⟩ : ∃ K, K = min m 1073741824 := ⟨_, rfl⟩
  have hct : ∀ W, Calls Try.prog 29 #[.int .i64 m] W fun e W' => e = .returned (.int .i64 (K : Int)) ∧ W = W' := fun W => by
    have := counted_any m W
    rw [show min (m : Int) 1073741824 = (K : Int) by omega] at this
    exact this
  have hK1 : 1 ≤ K := by omega
  have hK2 : K ≤ 1073741824 := by omega
  have HK0 := Lib.hid hK
  clear hK
  obtain ⟨X, hX⟩ : ∃ X, X = (((w.alloc (.cells #[.int .i64 (i : Int), .int .i64 (k : Int)] 27)).alloc (.cells #[.bool back] 4)).alloc (.cells #[.int .i64 0, .int .i64 0, .int .i64 0, .bool false, .int .i64 0] 40)) := ⟨_, rfl⟩
  have hT : Thr w X i k back := by rw [hX]; exact Thr.new w i k back
  have HX := Lib.hid hX
  have h1 := inside_any a n c' ls i k X (SrcV.below h hT.below) hs
  rw [decide_eq_true hp] at h1
  have HS := Lib.hid h
  have dn1 : decide ((m : Int) < 1) = false := decide_eq_false (by omega)
  have dn2 : decide (m < 1) = false := decide_eq_false (by omega)
  have p0 := hT.pos.c0
  have p1 := hT.pos.c1
  have b0 := hT.bc
  have m0 := hT.mv.c0
  have m1 := hT.mv.c1
  have m2 := hT.mv.c2
  have m3 := hT.mv.c3
  have m4 := hT.mv.c4
  have z := hT.mv.z
  clear hr hX hp hk hkk h hp0
  obtain ⟨A, hA⟩ : ∃ A, A = w.heap.size := ⟨_, rfl⟩
  have HAw := Lib.hid hA
  refine (callsIn_wide (n := 9)).1 ?_
  refine callsIn_of_wp_marks Try.func16 rfl trivial ?_ rfl
  simp only [Try.ntmps16, List.size_toArray, List.length_cons, List.length_nil, Nat.reduceAdd, Nat.reduceSub, Array.replicate_succ, Array.replicate_zero, List.push_toArray, List.append_toArray, List.nil_append, List.cons_append]
  refine wpIn_mono (Q := noPanic _) ?_ (noPanic_out _)
  gi_wp2_with fail
  refine ⟨trivial, ?_⟩
  rw [← HX.out]
  refine (callsIn_wide.2 h1).mono ?_
  rintro e w1 ⟨rfl, hb_w1⟩
  have T1 := hT.on hb_w1
  clear p0 p1 b0 m0 m1 m2 m3 m4 z h1 HX hT hb_w1
  have HT1 := Lib.hid T1
  clear T1
  gi_wp2_with fail
  refine ⟨trivial, ?_⟩
  obtain ⟨M, hM⟩ : ∃ M, M = w1.heap.size := ⟨_, rfl⟩
  obtain ⟨x2, hx2⟩ : ∃ x, x = (w1.alloc (.cells #[.slice none 0 0] 29)).alloc (.cells #[.int .i64 0] 3) := ⟨_, rfl⟩
  have hb2 : Below w1.heap.size w1 x2 := by rw [hx2]; exact two_below _ _ _
  have hg2 : x2.heap[M]? = some (.cells #[.slice none 0 0] 29 (0, 0)) := by rw [hx2, hM]; exact (Below.heap_alloc _ _ _ (by simp)).trans (heap_alloc_new w1 _)
  have hg3 : x2.heap[M + 1]? = some (.cells #[.int .i64 0] 3 (0, 0)) := by rw [hx2, hM]; exact two_new w1 _ _
  rw [← hx2, ← hM]
  have T2 := HT1.out.on hb2
  have hsz1 := HT1.out.size
  have hM2 : M + 2 = x2.heap.size := by rw [hx2, hM]; simp
  have hMl : 0 < n → ∀ k, blk (.slice a n c') = some k → ¬ (k = M ∨ k = M + 1) := fun h0 k hk e => by
    have := SrcV.blkLt HS.out (by omega) k hk
    omega
  clear hx2
  refine (callsIn_wide.2 (occ_keep a n c' ls pt (fun k => k = M ∨ k = M + 1) x2 (SrcV.below HS.out T2.below) hs (fun k e => by omega) hMl)).mono ?_
  rintro e Wi ⟨g, lb, rfl, hen, hit, hb3, hsz3⟩
  have T3 := T2.on hb3
  have hg4 := (hb3.block M (by omega)).trans hg2
  have hg5 := (hb3.block (M + 1) (by omega)).trans hg3
  have hxl : (pls pt ls).length ≤ 900000 := Nat.le_trans (pls_tz pt ls) htz
  have bi := T3.below
  have f0 := T3.pos
  have fb := T3.bk
  have f1 := T3.mv
  rw [← hA] at f0 f1 fb
  have hAM : A + 3 ≤ M := by omega
  have hMi : M + 4 = Wi.heap.size := by omega
  have hAw : w.heap.size ≤ A := by omega
  have hwA : A ≤ w.heap.size := by omega
  rw [← HAw.out]
  clear hb2 hg2 hg3 T2 hb3 T3 hM hM2 hsz1 hsz3 hA hMl htz
  have HFR := Lib.hid (show srL (pls pt ls) (i, k) back m = if (pls pt ls).length = 0 then ((0, 0), false) else ((pls pt ls).getD (trn (fr0 (pls pt ls) (i, k) back) (pls pt ls).length K back) (0, 0), true) from by unfold srL; rw [HK0.out])
  generalize pls pt ls = xs at *
  gi_wp2_with fail
  refine rangeFunc_iter (by omega) (gf := g) (lb := lb) rfl hen hit
    (fun h1 h2 => h1.trans h2) (fun V l o o' hl ho _ _ => Fr.grown (Fr.refl _ V) (grownBy_putObj' V l o') (fun k e _ => by cases e; exact .inr hl)) (Below.refl _ _) (fun _ => rfl)
    (fun pre V => Sb w Wi A M (Wi.heap.size + 2 + 0) (fr0 pre (i, k) back) (i, k) back pre V)
    (fun c pre V => False) ?hI ?hIx ⟨Fr.refl _ _, f0, fb, f1, ⟨none, 0, hg4, World.ownsRow_nil _ _ _ _⟩, hg5⟩ ?round ?done ?stop
  case hI => exact fun s A' B row hs hg hr => hs.grown (B := Wi.heap.size) (by omega) (by omega) bi.size hg hr
  case hIx => exact fun c s A' B row h hg hr => h
  case stop => exact fun D c pre V hD hpre hne hf hk => hf.elim
  case done =>
    rintro D V hD hB hk
    obtain ⟨F, hF⟩ : ∃ F, F = fr0 xs (i, k) back := ⟨_, rfl⟩
    rw [← hF] at hB
    have hFle : F ≤ xs.length := by rw [hF]; exact fr0_le _ _ _
    have HQ := Lib.hid hB
    clear hB
    obtain ⟨hKn, hp, hbk, hm, ⟨b, cc, g1, hrow⟩, hfi⟩ := HQ.out
    have y1 : V.cell? ⟨M, 0, none⟩ = some (.slice b xs.length cc) := (cell_of_row V _ 0 _ _ _ g1).trans (by simp)
    have y2 : V.cell? ⟨M + 1, 0, none⟩ = some (.int .i64 F) := (cell_of_row V _ 0 _ _ _ hfi).trans (by simp)
    have y3 : V.cell? ⟨A + 1, 0, none⟩ = some (.bool back) := (cell_of_row V _ 0 _ _ _ hbk).trans (by simp)
    have hps := Ps.ofOwn hrow
    have hbel := Kn.below bi hKn
    have HK := Lib.hid (And.intro hk (And.intro hm hbel))
    obtain ⟨N, hN⟩ : ∃ N, N = xs.length := ⟨_, rfl⟩
    rw [← hN] at y1 hps hxl hFle
    by_cases hN0 : N = 0
    · have HRQ : Hid (r = jmp ((0, 0), false)) := by rw [HR.out, HFR.out, if_pos (by omega)]; rfl
      subst hN0
      have m0 := hm.c0
      have m1 := hm.c1
      have m2 := hm.c2
      have m3 := hm.c3
      have m4 := hm.c4
      have z := hm.z
      clear hKn hp hbk hm g1 hrow hfi hps hbel hk HQ hN hF hFle hxl y2 y3 HFR
      gi_wp2
      obtain ⟨hk9, hm9, hbel9⟩ := HK.out
      have e1 := hm9.put 0 0 0 0 false
      have e3 : (put5 V (A + 2) 0 0 0 false 0).heap[D]? = some (.deferred (some [])) := (put5_other (by omega)).trans hk9
      have e4 := put5_below hbel9 (g := A + 2) (by omega) 0 0 0 0 false
      refine ⟨by simp, .inl ⟨_, _, rfl, run_takeDeferred e3, ?_⟩⟩
      refine ⟨_, Mv.results_cell_tmp rfl _ _ (A + 2) _ _ _ _ _ rfl ((World.putObj_heap_other (by omega)).trans e1) rfl Try.underlying40 rfl (by kernel_rfl), ?_, ?_⟩
      · rw [HRQ.out]; rfl
      · exact e4.grown (grownBy_putObj' _ D _) e4.size (fun k e => by cases e; omega)
    · obtain ⟨T, hT⟩ : ∃ T, T = trn F N K back := ⟨_, rfl⟩
      have hTl : T < N := by rw [hT]; exact trn_lt (by omega)
      obtain ⟨bb, oo, rfl, cx, cy, hnc⟩ := hps.read T (by omega)
      obtain ⟨q, hq⟩ : ∃ q : P2, q = xs[T]'(by omega) := ⟨_, rfl⟩
      rw [← hq] at cx cy
      have HRQ : Hid (r = jmp (q, true)) := by
        rw [HR.out, HFR.out, if_neg (by omega), ← hF, ← hN, ← hT, hq, List.getD_eq_getElem?_getD, List.getElem?_eq_getElem (by omega)]; rfl
      have h5 := fun W => turned_any F N K back W (by omega) (by omega) hFle hK1 hK2
      rw [← hT] at h5
      have b0 : ((N : Int) == 0) = false := by rw [beq_eq_false_iff_ne]; omega
      have b1 : (T : Int) < (N : Int) := by omega
      have HMX := Lib.hid (show Try.prog.follows .mixedOrders = true by kernel_rfl)
      clear hKn hp hbk hm g1 hrow hfi hps hbel hk HQ hN hF hFle hxl HFR hT hq hN0
      gi_wp2
      have F_y1 := fun (C : World → Prop) (hC : Grows V C) (y : In C) => hC.cell y1 y
      have F_y2 := fun (C : World → Prop) (hC : Grows V C) (y : In C) => hC.cell y2 y
      have F_y3 := fun (C : World → Prop) (hC : Grows V C) (y : In C) => hC.cell y3 y
      have F_cx := fun (C : World → Prop) (hC : Grows V C) (y : In C) => hC.cell cx y
      have F_cy := fun (C : World → Prop) (hC : Grows V C) (y : In C) => hC.cell cy y
      clear y1 y2 y3 cx cy
      refine wpIn_wide.2 ?_
      refine wp_region_seg [0, 1, 2, 3, 4, 5, 6, 7, 8, 9] [(10, 1), (11, 3)] (by kernel_rfl) (by kernel_rfl) 63 rfl (by kernel_rfl) ?_
      simp only [List.map_cons, List.map_nil, opOf_succ, opOf_zero]
      apply Exists.intro
      refine ⟨fun C hC => ?_, ?_⟩
      · haveI hI := hC.one
        have f_y1 := F_y1 C hC
        have f_y2 := F_y2 C hC
        have f_y3 := F_y3 C hC
        have f_cx := F_cx C hC
        have f_cy := F_cy C hC
        have g4 := fun y : In C => hct y.W
        have g5 := fun y : In C => h5 y.W
        repeat (go_big_quiet_step (first | (go_at_call 29; exact Calls.in_of_same hC (g4 _)) | (go_at_call 28; exact Calls.in_of_same hC (g5 _))))
        exact wpQuiet_nil rfl
      refine wpPath_make rfl fun w0 hb_w0 => ⟨_, _, rfl, run_pos w0, (Below.refl _ w0).alloc (Nat.le_refl _) _, ?_⟩
      simp only [opOf_succ, opOf_zero, Act.put, List.setIfInBounds_toArray, List.set_cons_zero, List.set_cons_succ]
      refine wpPath_store rfl fun w00 hb_w00 => ?_
      have hV := (PosAt.new w0 0 0).below hb_w00 (by simp)
      have hV2 := PosAt.set hV q.1 q.2
      have hb1 := below_on hb_w0 ((Below.refl _ w0).alloc (Nat.le_refl _) (.cells #[.int .i64 0, .int .i64 0] 27))
      have hb2 := below_on hb1 hb_w00
      have hb3 := (hb2.setCell (p := ⟨w0.heap.size, 0, none⟩) hb_w0.size (.int .i64 q.1)).setCell (p := ⟨w0.heap.size, 1, none⟩) hb_w0.size (.int .i64 q.2)
      refine ⟨_, rfl, run_store_pos hV, ?_⟩
      simp only [opOf_succ, opOf_zero, Act.put, List.setIfInBounds_toArray, List.set_cons_zero, List.set_cons_succ]
      refine wpPath_end fun V9 hb_V9 => ?_
      have hq9 := hV2.below hb_V9 hV2.lt
      have hb9 := below_on hb3 hb_V9
      obtain ⟨hk, hm, hbel⟩ := HK.out
      have hk9 := (hb9.block D (Array.getElem?_eq_some_iff.1 hk).1).trans hk
      have hm9 := hm.below hb9 hm.lt
      have q0 := hq9.c0
      have q1 := hq9.c1
      have m0 := hm9.c0
      have m1 := hm9.c1
      have m2 := hm9.c2
      have m3 := hm9.c3
      have m4 := hm9.c4
      have z := hm9.z
      have H9 := Lib.hid (And.intro hk9 (And.intro hm9 (below_on hbel hb9)))
      clear hk hm hbel hk9 hm9 hb9 hb1 hb2 hb3 hV hV2 hq9 hb_V9 hb_w00 h5 hct F_y1 F_y2 F_y3 F_cx F_cy
      gi_wp2
      obtain ⟨hk9, hm9, hbel9⟩ := H9.out
      have e1 := hm9.put q.1 q.2 0 (-1) true
      have e3 : (put5 V9 (A + 2) q.1 q.2 0 true (-1)).heap[D]? = some (.deferred (some [])) := (put5_other (by omega)).trans hk9
      have e4 := put5_below hbel9 (g := A + 2) (by omega) q.1 q.2 0 (-1) true
      refine ⟨by simp, .inl ⟨_, _, rfl, run_takeDeferred e3, ?_⟩⟩
      refine ⟨_, Mv.results_cell_tmp rfl _ _ (A + 2) _ _ _ _ _ rfl ((World.putObj_heap_other (by omega)).trans e1) rfl Try.underlying40 rfl (by kernel_rfl), ?_, ?_⟩
      · rw [HRQ.out]; rfl
      · exact e4.grown (grownBy_putObj' _ D _) e4.size (fun k e => by cases e; omega)
  case round =>
    rintro l' pre x V0 ⟨rest, hpr⟩ hsz0 hi0
    dsimp only [encp]
    have HI0 := Lib.hid hi0
    have hpl : pre.length ≤ 1000000 := by have := congrArg List.length hpr; simp at this; omega
    clear hi0
    gi_wp2
    refine ⟨(Keep.refl _ _ _).alloc _ hsz0, (Fr.refl _ _).alloc _, HI0.out.below ((Below.refl _ V0).alloc (Nat.le_refl _) _), ?_⟩
    rintro V hgr hl - hszV hB
    obtain ⟨QB, hQB⟩ : ∃ QB, QB = V0.heap.size := ⟨_, rfl⟩
    have gq : PosAt V QB x.1 x.2 := by
      rw [hQB]
      exact (hgr.block _ (by simp) (by intro e; injection e with e; omega)).trans (heap_alloc_new V0 _)
    rw [← hQB]
    have hQM : M + 2 ≤ QB := by omega
    have p0 := hB.2.1.c0
    have p1 := hB.2.1.c1
    have q0 := gq.c0
    have q1 := gq.c1
    have hls := So.less_any x.1 x.2 i k V
    have HV := Lib.hid (And.intro hB gq)
    clear hgr hl hB gq hQB HI0
    cases hlp : lp x (i, k)
    · rw [show So.lt x.1 x.2 i k = false from hlp] at hls
      have he := fun W => Mv.eq_pos (x.1 : Int) (x.2 : Int) (i : Int) (k : Int) W
      by_cases hxe : x = (i, k)
      · have hd : (decide ((x.1 : Int) = (i : Int)) && decide ((x.2 : Int) = (k : Int))) = true := by rw [hxe]; simp
        rw [hd] at he
        cases back
        · have hcn : cnd (i, k) false x = true := by rw [hxe]; show (!lp (i, k) (i, k)) = true; rw [lp_irr]; rfl
          clear hlp hxe hd
          gi_wp2_with fail
          refine ⟨trivial, ?_⟩
          refine (CallsIn.inRound l' (callsIn_wide.2 hls)).mono ?_
          rintro e V2 ⟨rfl, hb2⟩
          clear hls p0 p1 q0 q1
          have hB2 := HV.out.1.below hb2
          have hKNV := Lib.hid hB2.1
          have hq2 := HV.out.2.below hb2 HV.out.2.lt
          have hk2 : Keep Wi.heap.size (Wi.heap.size + 2 + 0) V V2 := Keep.ofFr (Fr.ofBelow hb2 (fun _ => False)) hszV (fun k e => e.elim)
          have hsz2 := hk2.size
          have s0 := hq2.c0
          have s1 := hq2.c1
          have s2 := hB2.2.1.c0
          have s3 := hB2.2.1.c1
          have s4 : V2.cell? ⟨A + 1, 0, none⟩ = some (.bool false) := (cell_of_row V2 _ 0 _ _ _ hB2.2.2.1).trans (by simp)
          obtain ⟨F1, hF1⟩ : ∃ F, F = fr0 pre (i, k) false + 1 := ⟨_, rfl⟩
          have hf0 : V2.cell? ⟨M + 1, 0, none⟩ = some (.int .i64 (fr0 pre (i, k) false : Nat)) := (cell_of_row V2 _ 0 _ _ _ hB2.2.2.2.2.2).trans (by simp)
          have hf1 : V2.frozen? ⟨M + 1, 0, none⟩ = false := frozen_of_row V2 _ 0 _ _ hB2.2.2.2.2.2
          have hfl := fr0_le pre (i, k) false
          have hwf : IntKind.i64.wrap ((fr0 pre (i, k) false : Int) + 1) = (F1 : Int) := by rw [IntKind.wrap_i64]; omega
          have HN : Hid (fr0 (pre ++ [x]) (i, k) false = F1) := by rw [hF1]; exact fr0_yes hcn
          generalize fr0 pre (i, k) false = F0 at *
          clear hF1 hcn hfl
          have hB3 : Sb w Wi A M (Wi.heap.size + 2 + 0) F1 (i, k) false pre (V2.setCell ⟨M + 1, 0, none⟩ (.int .i64 F1)) := hB2.inc F1 (by omega) (by omega) (by omega)
          have g23 : Fr (fun k => k = M + 1) V2 (V2.setCell ⟨M + 1, 0, none⟩ (.int .i64 F1)) := (Fr.refl (fun k => k = M + 1) V2).setCell (p := ⟨M + 1, 0, none⟩) (fun _ => rfl) _
          have hq3 : PosAt (V2.setCell ⟨M + 1, 0, none⟩ (.int .i64 F1)) QB x.1 x.2 := hq2.other (by omega)
          have hsz3 : (V2.setCell ⟨M + 1, 0, none⟩ (.int .i64 F1)).heap.size = V2.heap.size := by simp
          obtain ⟨b, cc, g1, hrow⟩ := hB3.2.2.2.2.1
          have y2 : (V2.setCell ⟨M + 1, 0, none⟩ (.int .i64 F1)).cell? ⟨M, 0, none⟩ = some (.slice b pre.length cc) := (cell_of_row _ _ 0 _ _ _ g1).trans (by simp)
          have q2 := hq3.c0
          have q3 := hq3.c1
          have hrow3 := ownsRow_fr hrow ((Fr.refl (fun _ => False) (V2.setCell ⟨M + 1, 0, none⟩ (.int .i64 F1))).alloc (.cells #[.int .i64 x.1, .int .i64 x.2] EP)) (by simp)
          have hob : ∀ g, (Value.slice b pre.length cc).ownBlock = some g → Wi.heap.size + 2 + 0 ≤ g := fun g hg => (hrow.lt g hg).1
          have hst : ∀ V4, ((V2.setCell ⟨M + 1, 0, none⟩ (.int .i64 F1)).alloc (.cells #[.int .i64 x.1, .int .i64 x.2] EP)).grownBy V4 (Value.slice b pre.length cc).ownBlock → V4.heap[M]? = some (.cells #[.slice b pre.length cc] 29 (0, 0)) := fun V4 hg4 =>
            (hg4.block (M) (by have := (Array.getElem?_eq_some_iff.1 g1).1; simp; omega) (by intro e; have := hob _ e.symm; omega)).trans ((Below.heap_alloc _ _ _ (by have := (Array.getElem?_eq_some_iff.1 g1).1; exact this)).trans g1)
          have HO3 := Lib.hid hob
          have HST := Lib.hid hst
          have HR3 := Lib.hid hrow3
          have HS3 := Lib.hid (SrcV.pos (V2.setCell ⟨M + 1, 0, none⟩ (.int .i64 F1)) x.1 x.2)
          have HP := Lib.hid (And.intro hB3 (And.intro hk2 (And.intro hb2 g23)))
          have hszz : Wi.heap.size + 2 + 0 ≤ (V2.setCell ⟨M + 1, 0, none⟩ (.int .i64 F1)).heap.size + 1 := by omega
          clear hB3 hB2 hk2 hb2 g1 hrow hrow3 hob hst hq3 hq2 g23
          gi_wp2_with (gi_at_builtin; go_must (refine wpListIn_append_srcv _ rfl _ _ 29 rfl (Wi.heap.size + 2 + 0) EP i0 (.agg #[.int .i64 0, .int .i64 0]) 2 16 underP hi0 hz0 hz1' hz2' rfl (by decide) (.slice b pre.length cc) pre.length (flat pre) rfl HR3.out (.slice (some ⟨V2.heap.size, 0, none⟩) 1 1) 1 [.int .i64 x.1, .int .i64 x.2] rfl (by have := HS3.out; rwa [hsz3] at this) (by simp only [maxLen]; omega) (by omega) (by simp; omega) ?_); intro ob oc V4 hown hg hnr; have y4 : V4.cell? ⟨M, 0, none⟩ = some (.slice b pre.length cc) := (cell_of_row V4 _ 0 _ _ _ (HST.out V4 hg)).trans (by simp); have z4 : V4.frozen? ⟨M, 0, none⟩ = false := frozen_of_row V4 _ 0 _ _ (HST.out V4 hg); have HO := Lib.hid (And.intro hown hg); clear hown hg hnr y2 q2 q3)
          obtain ⟨hown, hg⟩ := HO.out
          obtain ⟨hB3, hk2, hb2, g23⟩ := HP.out
          have g4 := HST.out V4 hg
          have f4 : Fr (fun k => k = M ∨ k = M + 1 ∨ (Value.slice b pre.length cc).ownBlock = some k) V2 V4 := Fr.grown ((g23.mono (fun i _ e => .inr (.inl e))).alloc _) hg (fun k e _ => .inr (.inr e))
          have f7 := f4.setCell (p := ⟨M, 0, none⟩) (fun _ => .inl rfl) (.slice ob (pre.length + 1) oc)
          have k7 : Kn w V2 (V4.setCell ⟨M, 0, none⟩ (.slice ob (pre.length + 1) oc)) := f7.mono (fun i _ e => by
            show w.heap.size ≤ i
            rcases e with e | e | e
            · omega
            · omega
            · have := HO3.out i e; omega)
          have k8 : Fr (fun k => (k = M ∨ k = M + 1) ∨ Wi.heap.size ≤ k) V2 (V4.setCell ⟨M, 0, none⟩ (.slice ob (pre.length + 1) oc)) := f7.mono (fun i _ e => by
            rcases e with e | e | e
            · exact .inl (.inl e)
            · exact .inl (.inr e)
            · have := HO3.out i e; exact .inr (by omega))
          have k9 : Fr (fun k => k = M ∨ (Value.slice b pre.length cc).ownBlock = some k) (V2.setCell ⟨M + 1, 0, none⟩ (.int .i64 F1)) (V4.setCell ⟨M, 0, none⟩ (.slice ob (pre.length + 1) oc)) := (Fr.grown ((Fr.refl _ (V2.setCell ⟨M + 1, 0, none⟩ (.int .i64 F1))).alloc _) hg (fun k e _ => .inr e)).setCell (p := ⟨M, 0, none⟩) (fun _ => .inl rfl) _
          have key : ∀ k, k ≠ M → k < M + 2 → k < (V2.setCell ⟨M + 1, 0, none⟩ (.int .i64 F1)).heap.size → (V4.setCell ⟨M, 0, none⟩ (.slice ob (pre.length + 1) oc)).heap[k]? = (V2.setCell ⟨M + 1, 0, none⟩ (.int .i64 F1)).heap[k]? := fun k hk hk1 hk2 => k9.block k hk2 (fun e => by
            rcases e with e | e
            · omega
            · have := HO3.out k e; omega)
          have hll : (pre ++ [x]).length = pre.length + 1 := by simp
          refine ⟨hk2.trans (Keep.ofFr f7 (by omega) (fun i e => by
            rcases e with e | e | e
            · exact .inl (by omega)
            · exact .inl (by omega)
            · exact .inr (HO3.out i e))), (Fr.ofBelow hb2 _).trans k8, hKNV.out.trans k7, (key _ (by omega) (by omega) hB3.2.1.lt).trans hB3.2.1, (key _ (by omega) (by omega) (Array.getElem?_eq_some_iff.1 hB3.2.2.1).1).trans hB3.2.2.1, (key _ (by omega) (by omega) hB3.2.2.2.1.lt).trans hB3.2.2.2.1, ⟨ob, oc, ?_, ?_⟩, ?_⟩
          · rw [hll]
            exact (heap_setCell_same V4 (M) 0 _ _ _ g4).trans (by simp)
          · rw [hll, flat_append, flat_one]
            exact ownsRow_fr hown ((Fr.refl (fun k => k = M) V4).setCell (p := ⟨M, 0, none⟩) (fun _ => rfl) _) (fun i hi e => by have := (hown.lt i hi).1; omega)
          · rw [HN.out]
            exact (key (M + 1) (by omega) (by omega) (Array.getElem?_eq_some_iff.1 hB3.2.2.2.2.2).1).trans hB3.2.2.2.2.2
        · have hcn : cnd (i, k) true x = false := by rw [hxe]; show lp (i, k) (i, k) = false; rw [lp_irr]
          clear hlp hxe hd
          gi_wp2_with fail
          refine ⟨trivial, ?_⟩
          refine (CallsIn.inRound l' (callsIn_wide.2 hls)).mono ?_
          rintro e V2 ⟨rfl, hb2⟩
          clear hls p0 p1 q0 q1
          have hB2 := HV.out.1.below hb2
          have hKNV := Lib.hid hB2.1
          have hq2 := HV.out.2.below hb2 HV.out.2.lt
          have hk2 : Keep Wi.heap.size (Wi.heap.size + 2 + 0) V V2 := Keep.ofFr (Fr.ofBelow hb2 (fun _ => False)) hszV (fun k e => e.elim)
          have hsz2 := hk2.size
          have s0 := hq2.c0
          have s1 := hq2.c1
          have s2 := hB2.2.1.c0
          have s3 := hB2.2.1.c1
          have s4 : V2.cell? ⟨A + 1, 0, none⟩ = some (.bool true) := (cell_of_row V2 _ 0 _ _ _ hB2.2.2.1).trans (by simp)
          have HN : Hid (fr0 (pre ++ [x]) (i, k) true = fr0 pre (i, k) true) := fr0_no hcn
          generalize fr0 pre (i, k) true = F0 at *
          clear hcn
          have hB3 : Sb w Wi A M (Wi.heap.size + 2 + 0) F0 (i, k) true pre V2 := hB2
          have g23 : Fr (fun k => k = M + 1) V2 V2 := Fr.refl (fun k => k = M + 1) V2
          have hq3 : PosAt V2 QB x.1 x.2 := hq2
          have hsz3 : V2.heap.size = V2.heap.size := by simp
          obtain ⟨b, cc, g1, hrow⟩ := hB3.2.2.2.2.1
          have y2 : V2.cell? ⟨M, 0, none⟩ = some (.slice b pre.length cc) := (cell_of_row _ _ 0 _ _ _ g1).trans (by simp)
          have q2 := hq3.c0
          have q3 := hq3.c1
          have hrow3 := ownsRow_fr hrow ((Fr.refl (fun _ => False) V2).alloc (.cells #[.int .i64 x.1, .int .i64 x.2] EP)) (by simp)
          have hob : ∀ g, (Value.slice b pre.length cc).ownBlock = some g → Wi.heap.size + 2 + 0 ≤ g := fun g hg => (hrow.lt g hg).1
          have hst : ∀ V4, (V2.alloc (.cells #[.int .i64 x.1, .int .i64 x.2] EP)).grownBy V4 (Value.slice b pre.length cc).ownBlock → V4.heap[M]? = some (.cells #[.slice b pre.length cc] 29 (0, 0)) := fun V4 hg4 =>
            (hg4.block (M) (by have := (Array.getElem?_eq_some_iff.1 g1).1; simp; omega) (by intro e; have := hob _ e.symm; omega)).trans ((Below.heap_alloc _ _ _ (by have := (Array.getElem?_eq_some_iff.1 g1).1; exact this)).trans g1)
          have HO3 := Lib.hid hob
          have HST := Lib.hid hst
          have HR3 := Lib.hid hrow3
          have HS3 := Lib.hid (SrcV.pos V2 x.1 x.2)
          have HP := Lib.hid (And.intro hB3 (And.intro hk2 (And.intro hb2 g23)))
          have hszz : Wi.heap.size + 2 + 0 ≤ V2.heap.size + 1 := by omega
          clear hB3 hB2 hk2 hb2 g1 hrow hrow3 hob hst hq3 hq2 g23
          gi_wp2_with (gi_at_builtin; go_must (refine wpListIn_append_srcv _ rfl _ _ 29 rfl (Wi.heap.size + 2 + 0) EP i0 (.agg #[.int .i64 0, .int .i64 0]) 2 16 underP hi0 hz0 hz1' hz2' rfl (by decide) (.slice b pre.length cc) pre.length (flat pre) rfl HR3.out (.slice (some ⟨V2.heap.size, 0, none⟩) 1 1) 1 [.int .i64 x.1, .int .i64 x.2] rfl HS3.out (by simp only [maxLen]; omega) (by omega) (by simp; omega) ?_); intro ob oc V4 hown hg hnr; have y4 : V4.cell? ⟨M, 0, none⟩ = some (.slice b pre.length cc) := (cell_of_row V4 _ 0 _ _ _ (HST.out V4 hg)).trans (by simp); have z4 : V4.frozen? ⟨M, 0, none⟩ = false := frozen_of_row V4 _ 0 _ _ (HST.out V4 hg); have HO := Lib.hid (And.intro hown hg); clear hown hg hnr y2 q2 q3)
          obtain ⟨hown, hg⟩ := HO.out
          obtain ⟨hB3, hk2, hb2, g23⟩ := HP.out
          have g4 := HST.out V4 hg
          have f4 : Fr (fun k => k = M ∨ k = M + 1 ∨ (Value.slice b pre.length cc).ownBlock = some k) V2 V4 := Fr.grown ((g23.mono (fun i _ e => .inr (.inl e))).alloc _) hg (fun k e _ => .inr (.inr e))
          have f7 := f4.setCell (p := ⟨M, 0, none⟩) (fun _ => .inl rfl) (.slice ob (pre.length + 1) oc)
          have k7 : Kn w V2 (V4.setCell ⟨M, 0, none⟩ (.slice ob (pre.length + 1) oc)) := f7.mono (fun i _ e => by
            show w.heap.size ≤ i
            rcases e with e | e | e
            · omega
            · omega
            · have := HO3.out i e; omega)
          have k8 : Fr (fun k => (k = M ∨ k = M + 1) ∨ Wi.heap.size ≤ k) V2 (V4.setCell ⟨M, 0, none⟩ (.slice ob (pre.length + 1) oc)) := f7.mono (fun i _ e => by
            rcases e with e | e | e
            · exact .inl (.inl e)
            · exact .inl (.inr e)
            · have := HO3.out i e; exact .inr (by omega))
          have k9 : Fr (fun k => k = M ∨ (Value.slice b pre.length cc).ownBlock = some k) V2 (V4.setCell ⟨M, 0, none⟩ (.slice ob (pre.length + 1) oc)) := (Fr.grown ((Fr.refl _ V2).alloc _) hg (fun k e _ => .inr e)).setCell (p := ⟨M, 0, none⟩) (fun _ => .inl rfl) _
          have key : ∀ k, k ≠ M → k < M + 2 → k < V2.heap.size → (V4.setCell ⟨M, 0, none⟩ (.slice ob (pre.length + 1) oc)).heap[k]? = V2.heap[k]? := fun k hk hk1 hk2 => k9.block k hk2 (fun e => by
            rcases e with e | e
            · omega
            · have := HO3.out k e; omega)
          have hll : (pre ++ [x]).length = pre.length + 1 := by simp
          refine ⟨hk2.trans (Keep.ofFr f7 (by omega) (fun i e => by
            rcases e with e | e | e
            · exact .inl (by omega)
            · exact .inl (by omega)
            · exact .inr (HO3.out i e))), (Fr.ofBelow hb2 _).trans k8, hKNV.out.trans k7, (key _ (by omega) (by omega) hB3.2.1.lt).trans hB3.2.1, (key _ (by omega) (by omega) (Array.getElem?_eq_some_iff.1 hB3.2.2.1).1).trans hB3.2.2.1, (key _ (by omega) (by omega) hB3.2.2.2.1.lt).trans hB3.2.2.2.1, ⟨ob, oc, ?_, ?_⟩, ?_⟩
          · rw [hll]
            exact (heap_setCell_same V4 (M) 0 _ _ _ g4).trans (by simp)
          · rw [hll, flat_append, flat_one]
            exact ownsRow_fr hown ((Fr.refl (fun k => k = M) V4).setCell (p := ⟨M, 0, none⟩) (fun _ => rfl) _) (fun i hi e => by have := (hown.lt i hi).1; omega)
          · rw [HN.out]
            exact (key (M + 1) (by omega) (by omega) (Array.getElem?_eq_some_iff.1 hB3.2.2.2.2.2).1).trans hB3.2.2.2.2.2
      · have hd : (decide ((x.1 : Int) = (i : Int)) && decide ((x.2 : Int) = (k : Int))) = false := by
          rw [Bool.and_eq_false_iff, decide_eq_false_iff_not, decide_eq_false_iff_not]
          by_cases h1 : x.1 = i
          · exact .inr fun h2 => hxe (Prod.ext h1 (by omega))
          · exact .inl fun h2 => h1 (by omega)
        rw [hd] at he
        have hcn : cnd (i, k) back x = false := by
          unfold cnd
          split
          · exact hlp
          · rw [Bool.not_eq_false']
            rw [lp_false] at hlp
            rw [lp_iff]
            have : ¬ (x.1 = i ∧ x.2 = k) := fun h => hxe (Prod.ext h.1 h.2)
            simp only at hlp ⊢
            omega
        clear hlp hxe hd
        gi_wp2_with fail
        refine ⟨trivial, ?_⟩
        refine (CallsIn.inRound l' (callsIn_wide.2 hls)).mono ?_
        rintro e V2 ⟨rfl, hb2⟩
        clear hls p0 p1 q0 q1
        have hB2 := HV.out.1.below hb2
        have hKNV := Lib.hid hB2.1
        have hq2 := HV.out.2.below hb2 HV.out.2.lt
        have hk2 : Keep Wi.heap.size (Wi.heap.size + 2 + 0) V V2 := Keep.ofFr (Fr.ofBelow hb2 (fun _ => False)) hszV (fun k e => e.elim)
        have hsz2 := hk2.size
        have s0 := hq2.c0
        have s1 := hq2.c1
        have s2 := hB2.2.1.c0
        have s3 := hB2.2.1.c1
        have s4 : V2.cell? ⟨A + 1, 0, none⟩ = some (.bool back) := (cell_of_row V2 _ 0 _ _ _ hB2.2.2.1).trans (by simp)
        have HN : Hid (fr0 (pre ++ [x]) (i, k) back = fr0 pre (i, k) back) := fr0_no hcn
        generalize fr0 pre (i, k) back = F0 at *
        clear hcn
        have hB3 : Sb w Wi A M (Wi.heap.size + 2 + 0) F0 (i, k) back pre V2 := hB2
        have g23 : Fr (fun k => k = M + 1) V2 V2 := Fr.refl (fun k => k = M + 1) V2
        have hq3 : PosAt V2 QB x.1 x.2 := hq2
        have hsz3 : V2.heap.size = V2.heap.size := by simp
        obtain ⟨b, cc, g1, hrow⟩ := hB3.2.2.2.2.1
        have y2 : V2.cell? ⟨M, 0, none⟩ = some (.slice b pre.length cc) := (cell_of_row _ _ 0 _ _ _ g1).trans (by simp)
        have q2 := hq3.c0
        have q3 := hq3.c1
        have hrow3 := ownsRow_fr hrow ((Fr.refl (fun _ => False) V2).alloc (.cells #[.int .i64 x.1, .int .i64 x.2] EP)) (by simp)
        have hob : ∀ g, (Value.slice b pre.length cc).ownBlock = some g → Wi.heap.size + 2 + 0 ≤ g := fun g hg => (hrow.lt g hg).1
        have hst : ∀ V4, (V2.alloc (.cells #[.int .i64 x.1, .int .i64 x.2] EP)).grownBy V4 (Value.slice b pre.length cc).ownBlock → V4.heap[M]? = some (.cells #[.slice b pre.length cc] 29 (0, 0)) := fun V4 hg4 =>
          (hg4.block (M) (by have := (Array.getElem?_eq_some_iff.1 g1).1; simp; omega) (by intro e; have := hob _ e.symm; omega)).trans ((Below.heap_alloc _ _ _ (by have := (Array.getElem?_eq_some_iff.1 g1).1; exact this)).trans g1)
        have HO3 := Lib.hid hob
        have HST := Lib.hid hst
        have HR3 := Lib.hid hrow3
        have HS3 := Lib.hid (SrcV.pos V2 x.1 x.2)
        have HP := Lib.hid (And.intro hB3 (And.intro hk2 (And.intro hb2 g23)))
        have hszz : Wi.heap.size + 2 + 0 ≤ V2.heap.size + 1 := by omega
        clear hB3 hB2 hk2 hb2 g1 hrow hrow3 hob hst hq3 hq2 g23
        gi_wp2_with (gi_at_builtin; go_must (refine wpListIn_append_srcv _ rfl _ _ 29 rfl (Wi.heap.size + 2 + 0) EP i0 (.agg #[.int .i64 0, .int .i64 0]) 2 16 underP hi0 hz0 hz1' hz2' rfl (by decide) (.slice b pre.length cc) pre.length (flat pre) rfl HR3.out (.slice (some ⟨V2.heap.size, 0, none⟩) 1 1) 1 [.int .i64 x.1, .int .i64 x.2] rfl HS3.out (by simp only [maxLen]; omega) (by omega) (by simp; omega) ?_); intro ob oc V4 hown hg hnr; have y4 : V4.cell? ⟨M, 0, none⟩ = some (.slice b pre.length cc) := (cell_of_row V4 _ 0 _ _ _ (HST.out V4 hg)).trans (by simp); have z4 : V4.frozen? ⟨M, 0, none⟩ = false := frozen_of_row V4 _ 0 _ _ (HST.out V4 hg); have HO := Lib.hid (And.intro hown hg); clear hown hg hnr y2 q2 q3)
        obtain ⟨hown, hg⟩ := HO.out
        obtain ⟨hB3, hk2, hb2, g23⟩ := HP.out
        have g4 := HST.out V4 hg
        have f4 : Fr (fun k => k = M ∨ k = M + 1 ∨ (Value.slice b pre.length cc).ownBlock = some k) V2 V4 := Fr.grown ((g23.mono (fun i _ e => .inr (.inl e))).alloc _) hg (fun k e _ => .inr (.inr e))
        have f7 := f4.setCell (p := ⟨M, 0, none⟩) (fun _ => .inl rfl) (.slice ob (pre.length + 1) oc)
        have k7 : Kn w V2 (V4.setCell ⟨M, 0, none⟩ (.slice ob (pre.length + 1) oc)) := f7.mono (fun i _ e => by
          show w.heap.size ≤ i
          rcases e with e | e | e
          · omega
          · omega
          · have := HO3.out i e; omega)
        have k8 : Fr (fun k => (k = M ∨ k = M + 1) ∨ Wi.heap.size ≤ k) V2 (V4.setCell ⟨M, 0, none⟩ (.slice ob (pre.length + 1) oc)) := f7.mono (fun i _ e => by
          rcases e with e | e | e
          · exact .inl (.inl e)
          · exact .inl (.inr e)
          · have := HO3.out i e; exact .inr (by omega))
        have k9 : Fr (fun k => k = M ∨ (Value.slice b pre.length cc).ownBlock = some k) V2 (V4.setCell ⟨M, 0, none⟩ (.slice ob (pre.length + 1) oc)) := (Fr.grown ((Fr.refl _ V2).alloc _) hg (fun k e _ => .inr e)).setCell (p := ⟨M, 0, none⟩) (fun _ => .inl rfl) _
        have key : ∀ k, k ≠ M → k < M + 2 → k < V2.heap.size → (V4.setCell ⟨M, 0, none⟩ (.slice ob (pre.length + 1) oc)).heap[k]? = V2.heap[k]? := fun k hk hk1 hk2 => k9.block k hk2 (fun e => by
          rcases e with e | e
          · omega
          · have := HO3.out k e; omega)
        have hll : (pre ++ [x]).length = pre.length + 1 := by simp
        refine ⟨hk2.trans (Keep.ofFr f7 (by omega) (fun i e => by
          rcases e with e | e | e
          · exact .inl (by omega)
          · exact .inl (by omega)
          · exact .inr (HO3.out i e))), (Fr.ofBelow hb2 _).trans k8, hKNV.out.trans k7, (key _ (by omega) (by omega) hB3.2.1.lt).trans hB3.2.1, (key _ (by omega) (by omega) (Array.getElem?_eq_some_iff.1 hB3.2.2.1).1).trans hB3.2.2.1, (key _ (by omega) (by omega) hB3.2.2.2.1.lt).trans hB3.2.2.2.1, ⟨ob, oc, ?_, ?_⟩, ?_⟩
        · rw [hll]
          exact (heap_setCell_same V4 (M) 0 _ _ _ g4).trans (by simp)
        · rw [hll, flat_append, flat_one]
          exact ownsRow_fr hown ((Fr.refl (fun k => k = M) V4).setCell (p := ⟨M, 0, none⟩) (fun _ => rfl) _) (fun i hi e => by have := (hown.lt i hi).1; omega)
        · rw [HN.out]
          exact (key (M + 1) (by omega) (by omega) (Array.getElem?_eq_some_iff.1 hB3.2.2.2.2.2).1).trans hB3.2.2.2.2.2
    · rw [show So.lt x.1 x.2 i k = true from hlp] at hls
      have hcn : cnd (i, k) back x = true := by
        unfold cnd
        split
        · exact hlp
        · rw [Bool.not_eq_true', lp_false]; rw [lp_iff] at hlp; omega
      clear hlp
      gi_wp2_with fail
      refine ⟨trivial, ?_⟩
      refine (CallsIn.inRound l' (callsIn_wide.2 hls)).mono ?_
      rintro e V2 ⟨rfl, hb2⟩
      clear hls p0 p1 q0 q1
      have hB2 := HV.out.1.below hb2
      have hKNV := Lib.hid hB2.1
      have hq2 := HV.out.2.below hb2 HV.out.2.lt
      have hk2 : Keep Wi.heap.size (Wi.heap.size + 2 + 0) V V2 := Keep.ofFr (Fr.ofBelow hb2 (fun _ => False)) hszV (fun k e => e.elim)
      have hsz2 := hk2.size
      obtain ⟨F1, hF1⟩ : ∃ F, F = fr0 pre (i, k) back + 1 := ⟨_, rfl⟩
      have hf0 : V2.cell? ⟨M + 1, 0, none⟩ = some (.int .i64 (fr0 pre (i, k) back : Nat)) := (cell_of_row V2 _ 0 _ _ _ hB2.2.2.2.2.2).trans (by simp)
      have hf1 : V2.frozen? ⟨M + 1, 0, none⟩ = false := frozen_of_row V2 _ 0 _ _ hB2.2.2.2.2.2
      have hfl := fr0_le pre (i, k) back
      have hwf : IntKind.i64.wrap ((fr0 pre (i, k) back : Int) + 1) = (F1 : Int) := by rw [IntKind.wrap_i64]; omega
      have HN : Hid (fr0 (pre ++ [x]) (i, k) back = F1) := by rw [hF1]; exact fr0_yes hcn
      generalize fr0 pre (i, k) back = F0 at *
      clear hF1 hcn hfl
      have hB3 : Sb w Wi A M (Wi.heap.size + 2 + 0) F1 (i, k) back pre (V2.setCell ⟨M + 1, 0, none⟩ (.int .i64 F1)) := hB2.inc F1 (by omega) (by omega) (by omega)
      have g23 : Fr (fun k => k = M + 1) V2 (V2.setCell ⟨M + 1, 0, none⟩ (.int .i64 F1)) := (Fr.refl (fun k => k = M + 1) V2).setCell (p := ⟨M + 1, 0, none⟩) (fun _ => rfl) _
      have hq3 : PosAt (V2.setCell ⟨M + 1, 0, none⟩ (.int .i64 F1)) QB x.1 x.2 := hq2.other (by omega)
      have hsz3 : (V2.setCell ⟨M + 1, 0, none⟩ (.int .i64 F1)).heap.size = V2.heap.size := by simp
      obtain ⟨b, cc, g1, hrow⟩ := hB3.2.2.2.2.1
      have y2 : (V2.setCell ⟨M + 1, 0, none⟩ (.int .i64 F1)).cell? ⟨M, 0, none⟩ = some (.slice b pre.length cc) := (cell_of_row _ _ 0 _ _ _ g1).trans (by simp)
      have q2 := hq3.c0
      have q3 := hq3.c1
      have hrow3 := ownsRow_fr hrow ((Fr.refl (fun _ => False) (V2.setCell ⟨M + 1, 0, none⟩ (.int .i64 F1))).alloc (.cells #[.int .i64 x.1, .int .i64 x.2] EP)) (by simp)
      have hob : ∀ g, (Value.slice b pre.length cc).ownBlock = some g → Wi.heap.size + 2 + 0 ≤ g := fun g hg => (hrow.lt g hg).1
      have hst : ∀ V4, ((V2.setCell ⟨M + 1, 0, none⟩ (.int .i64 F1)).alloc (.cells #[.int .i64 x.1, .int .i64 x.2] EP)).grownBy V4 (Value.slice b pre.length cc).ownBlock → V4.heap[M]? = some (.cells #[.slice b pre.length cc] 29 (0, 0)) := fun V4 hg4 =>
        (hg4.block (M) (by have := (Array.getElem?_eq_some_iff.1 g1).1; simp; omega) (by intro e; have := hob _ e.symm; omega)).trans ((Below.heap_alloc _ _ _ (by have := (Array.getElem?_eq_some_iff.1 g1).1; exact this)).trans g1)
      have HO3 := Lib.hid hob
      have HST := Lib.hid hst
      have HR3 := Lib.hid hrow3
      have HS3 := Lib.hid (SrcV.pos (V2.setCell ⟨M + 1, 0, none⟩ (.int .i64 F1)) x.1 x.2)
      have HP := Lib.hid (And.intro hB3 (And.intro hk2 (And.intro hb2 g23)))
      have hszz : Wi.heap.size + 2 + 0 ≤ (V2.setCell ⟨M + 1, 0, none⟩ (.int .i64 F1)).heap.size + 1 := by omega
      clear hB3 hB2 hk2 hb2 g1 hrow hrow3 hob hst hq3 hq2 g23
      gi_wp2_with (gi_at_builtin; go_must (refine wpListIn_append_srcv _ rfl _ _ 29 rfl (Wi.heap.size + 2 + 0) EP i0 (.agg #[.int .i64 0, .int .i64 0]) 2 16 underP hi0 hz0 hz1' hz2' rfl (by decide) (.slice b pre.length cc) pre.length (flat pre) rfl HR3.out (.slice (some ⟨V2.heap.size, 0, none⟩) 1 1) 1 [.int .i64 x.1, .int .i64 x.2] rfl (by have := HS3.out; rwa [hsz3] at this) (by simp only [maxLen]; omega) (by omega) (by simp; omega) ?_); intro ob oc V4 hown hg hnr; have y4 : V4.cell? ⟨M, 0, none⟩ = some (.slice b pre.length cc) := (cell_of_row V4 _ 0 _ _ _ (HST.out V4 hg)).trans (by simp); have z4 : V4.frozen? ⟨M, 0, none⟩ = false := frozen_of_row V4 _ 0 _ _ (HST.out V4 hg); have HO := Lib.hid (And.intro hown hg); clear hown hg hnr y2 q2 q3)
      obtain ⟨hown, hg⟩ := HO.out
      obtain ⟨hB3, hk2, hb2, g23⟩ := HP.out
      have g4 := HST.out V4 hg
      have f4 : Fr (fun k => k = M ∨ k = M + 1 ∨ (Value.slice b pre.length cc).ownBlock = some k) V2 V4 := Fr.grown ((g23.mono (fun i _ e => .inr (.inl e))).alloc _) hg (fun k e _ => .inr (.inr e))
      have f7 := f4.setCell (p := ⟨M, 0, none⟩) (fun _ => .inl rfl) (.slice ob (pre.length + 1) oc)
      have k7 : Kn w V2 (V4.setCell ⟨M, 0, none⟩ (.slice ob (pre.length + 1) oc)) := f7.mono (fun i _ e => by
        show w.heap.size ≤ i
        rcases e with e | e | e
        · omega
        · omega
        · have := HO3.out i e; omega)
      have k8 : Fr (fun k => (k = M ∨ k = M + 1) ∨ Wi.heap.size ≤ k) V2 (V4.setCell ⟨M, 0, none⟩ (.slice ob (pre.length + 1) oc)) := f7.mono (fun i _ e => by
        rcases e with e | e | e
        · exact .inl (.inl e)
        · exact .inl (.inr e)
        · have := HO3.out i e; exact .inr (by omega))
      have k9 : Fr (fun k => k = M ∨ (Value.slice b pre.length cc).ownBlock = some k) (V2.setCell ⟨M + 1, 0, none⟩ (.int .i64 F1)) (V4.setCell ⟨M, 0, none⟩ (.slice ob (pre.length + 1) oc)) := (Fr.grown ((Fr.refl _ (V2.setCell ⟨M + 1, 0, none⟩ (.int .i64 F1))).alloc _) hg (fun k e _ => .inr e)).setCell (p := ⟨M, 0, none⟩) (fun _ => .inl rfl) _
      have key : ∀ k, k ≠ M → k < M + 2 → k < (V2.setCell ⟨M + 1, 0, none⟩ (.int .i64 F1)).heap.size → (V4.setCell ⟨M, 0, none⟩ (.slice ob (pre.length + 1) oc)).heap[k]? = (V2.setCell ⟨M + 1, 0, none⟩ (.int .i64 F1)).heap[k]? := fun k hk hk1 hk2 => k9.block k hk2 (fun e => by
        rcases e with e | e
        · omega
        · have := HO3.out k e; omega)
      have hll : (pre ++ [x]).length = pre.length + 1 := by simp
      refine ⟨hk2.trans (Keep.ofFr f7 (by omega) (fun i e => by
        rcases e with e | e | e
        · exact .inl (by omega)
        · exact .inl (by omega)
        · exact .inr (HO3.out i e))), (Fr.ofBelow hb2 _).trans k8, hKNV.out.trans k7, (key _ (by omega) (by omega) hB3.2.1.lt).trans hB3.2.1, (key _ (by omega) (by omega) (Array.getElem?_eq_some_iff.1 hB3.2.2.1).1).trans hB3.2.2.1, (key _ (by omega) (by omega) hB3.2.2.2.1.lt).trans hB3.2.2.2.1, ⟨ob, oc, ?_, ?_⟩, ?_⟩
      · rw [hll]
        exact (heap_setCell_same V4 (M) 0 _ _ _ g4).trans (by simp)
      · rw [hll, flat_append, flat_one]
        exact ownsRow_fr hown ((Fr.refl (fun k => k = M) V4).setCell (p := ⟨M, 0, none⟩) (fun _ => rfl) _) (fun i hi e => by have := (hown.lt i hi).1; omega)
      · rw [HN.out]
        exact (key (M + 1) (by omega) (by omega) (Array.getElem?_eq_some_iff.1 hB3.2.2.2.2.2).1).trans hB3.2.2.2.2.2
end Go.Proofs.Ythlneojhkhhmbaa.Fd
