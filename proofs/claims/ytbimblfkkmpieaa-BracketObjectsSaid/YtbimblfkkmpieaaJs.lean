/-
  The document's step: the next byte's place, one way or the other.
-/
import Derived.Test.YtbimblfkkmpieaaJk
import Derived.Test.YtbimblfkkmpieaaTw
set_option linter.unusedVariables false
set_option linter.unusedSimpArgs false
set_option maxRecDepth 100000
namespace Go.Proofs.Ytbimblfkkmpieaa.Pr
open Go Go.RowKit Go.Proofs.Ytbimblfkkmpieaa.Vk Go.Proofs.Ytbimblfkkmpieaa.Str Go.Proofs.Ytbimblfkkmpieaa.Ln Go.Proofs.Ytbimblfkkmpieaa.Cl Go.Proofs.Ytbimblfkkmpieaa.Mv Go.Proofs.Ytbimblfkkmpieaa.Wd Go.Shelf
attribute [local go_sem] Oper.semAt_some

/-- Two variables for places: the one at the beginning, the answer's. -/
structure Tp (w W : World) (x y : Int) : Prop where
  size : w.heap.size + 2 ≤ W.heap.size
  pos : PosAt W w.heap.size x y
  res : PosAt W (w.heap.size + 1) 0 0
  below : Below w.heap.size w W
theorem Tp.new (w : World) (x y : Int) : Tp w ((w.alloc (.cells #[.int .i64 x, .int .i64 y] 24)).alloc (.cells #[.int .i64 0, .int .i64 0] 24)) x y :=
  ⟨by simp, PosAt.below (PosAt.new w x y) ((Below.refl _ _).alloc (Nat.le_refl _) _) (by simp), two_new w _ _, two_below w _ _⟩
theorem Tp.on {w W W' : World} {x y : Int} (h : Tp w W x y) (hb : Below W.heap.size W W') : Tp w W' x y :=
  ⟨Nat.le_trans h.size hb.size, h.pos.below hb (by have := h.size; omega), h.res.below hb (by have := h.size; omega), h.below.trans (hb.mono (by have := h.size; omega))⟩
theorem Tp.set1 {w W : World} {x y : Int} (h : Tp w W x y) (v : Int) : Tp w (W.setCell ⟨w.heap.size, 1, none⟩ (.int .i64 v)) x v :=
  ⟨by simpa using h.size, (heap_setCell_same W _ 1 _ _ (.int .i64 v) h.pos).trans (by simp), h.res.other (by omega), h.below.setCell (p := ⟨w.heap.size, 1, none⟩) (Nat.le_refl _) _⟩
theorem Tp.set0 {w W : World} {x y : Int} (h : Tp w W x y) (v : Int) : Tp w (W.setCell ⟨w.heap.size, 0, none⟩ (.int .i64 v)) v y :=
  ⟨by simpa using h.size, (heap_setCell_same W _ 0 _ _ (.int .i64 v) h.pos).trans (by simp), h.res.other (by omega), h.below.setCell (p := ⟨w.heap.size, 0, none⟩) (Nat.le_refl _) _⟩
theorem Tp.ret {w W : World} {x y : Int} (h : Tp w W x y) (a b : Int) : PosAt ((W.setCell ⟨w.heap.size + 1, 0, none⟩ (.int .i64 a)).setCell ⟨w.heap.size + 1, 1, none⟩ (.int .i64 b)) (w.heap.size + 1) a b ∧
    Below w.heap.size w ((W.setCell ⟨w.heap.size + 1, 0, none⟩ (.int .i64 a)).setCell ⟨w.heap.size + 1, 1, none⟩ (.int .i64 b)) :=
  ⟨So.set2 h.res, (h.below.setCell (p := ⟨w.heap.size + 1, 0, none⟩) (by simp) _).setCell (p := ⟨w.heap.size + 1, 1, none⟩) (by simp) _⟩
/-- A place in its variable, and a bool, are handed back. -/
theorem ret_ps {fn : Func} {p q : Tmp} {a : Act} {w : World} {g : Nat} {x y : Int} {ok : Bool} {Q : Ending → World → Prop} (hr : fn.results = #[.cell p 24, .tmp q]) (hp : a.tmps.getD p undef = .pointer (some ⟨g, 0, none⟩)) (hq : a.tmps.getD q undef = .bool ok) (hd : a.defers = [])
    (hg : PosAt w g x y) (h : Q (.returned (.tuple #[.agg #[.int .i64 x, .int .i64 y], .bool ok])) w) : bodyPost Try.prog fn Q Exit.ret a w :=
  bodyPost_ret (Mv.results_cell_tmp hr _ _ g _ _ _ _ _ hp hg hq Try.underlying24 rfl (by kernel_rfl)) hd h
/-- What a step answers, T being what is still to come. -/
def StOut (T : List Cell) (e : Ending) : Prop :=
  (∃ q b r, T = (q, b) :: r ∧ e = .returned (nthU (q, true))) ∨ (T = [] ∧ ∃ x y : Int, e = .returned (.tuple #[.agg #[.int .i64 x, .int .i64 y], .bool false]))

set_option maxHeartbeats 4000000 in
theorem step_fwd (a : Option Addr) (n c' : Nat) (ls : List ByteArray) (i k : Nat) (w : World) (h : Ss w a n c' ls) (hs : ∀ s ∈ ls, s.size ≤ 140737488355328) (hn6 : n ≤ 1000000) (hi : i < n) (hk : k < (lineAt ls i).size) :
    Calls Try.prog 34 #[.slice a n c', .agg #[.int .i64 i, .int .i64 k], .bool false] w fun e w' => StOut (afr ls i (k + 1)) e ∧ Below w.heap.size w w' := by
  have hlen := h.length
  have hn := h.le63
  have hks : (lineAt ls i).size ≤ 140737488355328 := by rw [lineAt_get (by omega)]; exact hs _ (List.getElem_mem _)
  obtain ⟨X, hX⟩ : ∃ X, X = ((w.alloc (.cells #[.int .i64 (i : Int), .int .i64 (k : Int)] 24)).alloc (.cells #[.int .i64 0, .int .i64 0] 24)) := ⟨_, rfl⟩
  have hT : Tp w X i k := by rw [hX]; exact Tp.new w i k
  have HX := Lib.hid hX
  have HS := Lib.hid h
  have HSZ := Lib.hid hs
  obtain ⟨K, hK⟩ : ∃ K, K = k + 1 := ⟨_, rfl⟩
  rw [← hK]
  have hw : IntKind.i64.wrap ((k : Int) + 1) = (K : Int) := by rw [IntKind.wrap_i64]; omega
  have hKi : K ≤ (lineAt ls i).size := by omega
  have p1 := hT.pos.c1
  have pz := fun j => frozen_of_row X w.heap.size j _ _ hT.pos
  have HT := Lib.hid (hT.set1 K)
  clear hX h hs hK hT hk hks
  go_enter Try.func34, Try.ntmps34
  go_upto_region 1 with fail
  rw [← HX.out]
  go_wp2
  clear p1 pz hw
  go_loopw [17] (fun _ wr => ∃ L c : Nat, L < n ∧ c ≤ (lineAt ls L).size ∧ Hid (Tp w wr L c ∧ afr ls i K = afr ls L c)) (fun _ wr => n - So.cnt w.heap.size wr)
  case atStart => exact ⟨i, K, hi, hKi, HT.out, rfl⟩
  case round =>
    obtain ⟨L, c, hL, hc, hQ⟩ := hrel
    obtain ⟨hT, hE⟩ := hQ.out
    obtain ⟨b, o, rfl, hcx, hnc, _⟩ := HS.out.read L (by omega)
    rw [← lineAt_get (ls := ls) (k := L) (by omega)] at hcx
    have f0 := fun z : Gr wr => z.cell hT.pos.c0
    have f1 := fun z : Gr wr => z.cell hT.pos.c1
    have f2 := fun z : Gr wr => z.cell (cell_later hT.below hcx)
    have d0 : decide ((c : Int) < 0) = false := decide_eq_false (by omega)
    by_cases hcs : c < (lineAt ls L).size
    · have d1 : decide ((lineAt ls L).size ≤ c) = false := decide_eq_false (by omega)
      have HE := Lib.hid (hE.trans (afr_at (by omega) hcs))
      have HT1 := Lib.hid hT
      clear hE hQ hT hcx
      go_upto_region 4 with fail
      refine wp_region_grow (by kernel_rfl) (by kernel_rfl) ?_
      repeat go_big_quiet_step (fail)
      refine wpQuiet_nil ?_
      rintro X5 ⟨⟨_, hX5⟩, rfl⟩
      have hT5 := HT1.out.on hX5
      have p0 := hT5.pos.c0
      have p1 := hT5.pos.c1
      have z := fun j => frozen_of_row X5 (w.heap.size + 1) j _ _ hT5.res
      have r0 := hT5.res.c0
      have r1 := hT5.res.c1
      clear f0 f1 f2 hX5
      go_wp2
      obtain ⟨hg, hb⟩ := hT5.ret L c
      refine ret_ps (g := w.heap.size + 1) (x := L) (y := c) (ok := true) rfl rfl rfl rfl hg ?_
      exact ⟨.inl ⟨(L, c), _, _, HE.out, rfl⟩, hb⟩
    · have hce : c = (lineAt ls L).size := by omega
      have d1 : decide ((lineAt ls L).size ≤ c) = true := decide_eq_true (by omega)
      obtain ⟨M, hM⟩ : ∃ M, M = L + 1 := ⟨_, rfl⟩
      have HE := Lib.hid (hE.trans (afr_line (by omega) hce))
      rw [← hM] at HE
      have HT1 := Lib.hid hT
      have hwM : IntKind.i64.wrap ((L : Int) + 1) = (M : Int) := by rw [IntKind.wrap_i64]; omega
      have e0 : decide ((M : Int) < 0) = false := decide_eq_false (by omega)
      have HM := Lib.hid hM
      clear hE hQ hT hcx hce hM
      go_upto_region 4 with fail
      refine wp_region_grow (by kernel_rfl) (by kernel_rfl) ?_
      repeat go_big_quiet_step (fail)
      refine wpQuiet_nil ?_
      rintro X5 ⟨⟨_, hX5⟩, rfl⟩
      have hT5 := HT1.out.on hX5
      have p0 := hT5.pos.c0
      have p1 := hT5.pos.c1
      have pz := fun j => frozen_of_row X5 w.heap.size j _ _ hT5.pos
      have hT6 := hT5.set0 M
      have hcnt : So.cnt w.heap.size wr = L := by
        have := HT1.out.pos.c0
        unfold So.cnt
        rw [this]; simp [RowKit.intOf]
      have HT6 := Lib.hid (And.intro hT6 hcnt)
      have z := fun j => frozen_of_row _ (w.heap.size + 1) j _ _ hT6.res
      clear f0 f1 f2 hX5 hT5 hT6 hcnt
      by_cases hMn : M < n
      · have d2 : decide (n ≤ M) = false := decide_eq_false (by omega)
        go_wp2
        go_roundw
        case rel =>
          refine ⟨M, 0, hMn, Nat.zero_le _, ?_, HE.out⟩
          exact HT6.out.1.set1 0
        case measure =>
          have h1 := HT6.out.2
          have h2 := (HT6.out.1.set1 0).pos.c0
          have h3 := HM.out
          rw [h1]
          unfold So.cnt
          rw [h2]
          simp [RowKit.intOf]
          omega
      · have d2 : decide (n ≤ M) = true := decide_eq_true (by omega)
        have hnil : afr ls i K = [] := by rw [HE.out, show M = ls.length by have := HM.out; omega]; exact afr_end
        have HNL := Lib.hid hnil
        have p0' := HT6.out.1.pos.c0
        have p1' := HT6.out.1.pos.c1
        have r0 := HT6.out.1.res.c0
        have r1 := HT6.out.1.res.c1
        clear hnil
        go_wp2
        obtain ⟨hg, hb⟩ := HT6.out.1.ret M c
        refine ret_ps (g := w.heap.size + 1) (x := M) (y := c) (ok := false) rfl rfl rfl rfl hg ?_
        exact ⟨.inr ⟨HNL.out, _, _, rfl⟩, hb⟩
set_option maxHeartbeats 4000000 in
theorem step_bwd (a : Option Addr) (n c' : Nat) (ls : List ByteArray) (i k : Nat) (w : World) (h : Ss w a n c' ls) (hs : ∀ s ∈ ls, s.size ≤ 140737488355328) (hn6 : n ≤ 1000000) (hi : i < n) (hk : k < (lineAt ls i).size) :
    Calls Try.prog 34 #[.slice a n c', .agg #[.int .i64 i, .int .i64 k], .bool true] w fun e w' => StOut (bfr ls i k).reverse e ∧ Below w.heap.size w w' := by
  have hlen := h.length
  have hn := h.le63
  have hks : (lineAt ls i).size ≤ 140737488355328 := by rw [lineAt_get (by omega)]; exact hs _ (List.getElem_mem _)
  obtain ⟨X, hX⟩ : ∃ X, X = ((w.alloc (.cells #[.int .i64 (i : Int), .int .i64 (k : Int)] 24)).alloc (.cells #[.int .i64 0, .int .i64 0] 24)) := ⟨_, rfl⟩
  have hT : Tp w X i k := by rw [hX]; exact Tp.new w i k
  have HX := Lib.hid hX
  have HS := Lib.hid h
  have HSZ := Lib.hid hs
  obtain ⟨K, hK⟩ : ∃ K, K = (k : Int) - 1 := ⟨_, rfl⟩
  have hw : IntKind.i64.wrap ((k : Int) - 1) = K := by rw [IntKind.wrap_i64]; omega
  have HK := Lib.hid (show K + 1 = (k : Int) by omega)
  have p1 := hT.pos.c1
  have pz := fun j => frozen_of_row X w.heap.size j _ _ hT.pos
  have HT := Lib.hid (hT.set1 K)
  have hki : k ≤ (lineAt ls i).size := by omega
  clear hX h hs hK hT hk hks
  go_enter Try.func34, Try.ntmps34
  go_upto_region 1 with fail
  rw [← HX.out]
  go_wp2
  clear p1 pz hw
  go_loopw [17] (fun _ wr => ∃ (L q : Nat) (C : Int), L < n ∧ q ≤ (lineAt ls L).size ∧ Hid (C + 1 = q) ∧ Hid (Tp w wr L C ∧ (bfr ls i k).reverse = (bfr ls L q).reverse)) (fun _ wr => So.cnt w.heap.size wr)
  case atStart => exact ⟨i, k, K, hi, hki, HK.out, HT.out, rfl⟩
  case round =>
    obtain ⟨L, q, C, hL, hq, hC, hQ⟩ := hrel
    obtain ⟨hT, hE⟩ := hQ.out
    obtain ⟨b, o, rfl, hcx, hnc, _⟩ := HS.out.read L (by omega)
    rw [← lineAt_get (ls := ls) (k := L) (by omega)] at hcx
    have f0 := fun z : Gr wr => z.cell hT.pos.c0
    have f1 := fun z : Gr wr => z.cell hT.pos.c1
    have f2 := fun z : Gr wr => z.cell (cell_later hT.below hcx)
    by_cases hcs : 0 < q
    · obtain ⟨c, rfl⟩ : ∃ c, q = c + 1 := ⟨q - 1, by omega⟩
      obtain rfl : C = (c : Int) := by have := hC.out; omega
      have d0 : decide ((c : Int) < 0) = false := decide_eq_false (by omega)
      have d1 : decide ((lineAt ls L).size ≤ c) = false := decide_eq_false (by omega)
      have HE := Lib.hid (hE.trans (by rw [bfr_succ (ls := ls) (i := L) (k := c) (by omega), List.reverse_append]; rfl : _ = ((L, c), (lineAt ls L)[c]'(by omega)) :: (bfr ls L c).reverse))
      have HT1 := Lib.hid hT
      clear hE hQ hT hcx hcs hC
      go_upto_region 4 with fail
      refine wp_region_grow (by kernel_rfl) (by kernel_rfl) ?_
      repeat go_big_quiet_step (fail)
      refine wpQuiet_nil ?_
      rintro X5 ⟨⟨_, hX5⟩, rfl⟩
      have hT5 := HT1.out.on hX5
      have p0 := hT5.pos.c0
      have p1 := hT5.pos.c1
      have z := fun j => frozen_of_row X5 (w.heap.size + 1) j _ _ hT5.res
      have r0 := hT5.res.c0
      have r1 := hT5.res.c1
      clear f0 f1 f2 hX5
      go_wp2
      obtain ⟨hg, hb⟩ := hT5.ret L c
      refine ret_ps (g := w.heap.size + 1) (x := L) (y := c) (ok := true) rfl rfl rfl rfl hg ?_
      exact ⟨.inl ⟨(L, c), _, _, HE.out, rfl⟩, hb⟩
    · obtain rfl : q = 0 := by omega
      have d0 : decide (C < 0) = true := decide_eq_true (by have := hC.out; omega)
      have HE := Lib.hid hE
      have HT1 := Lib.hid hT
      obtain ⟨M, hM⟩ : ∃ M, M = (L : Int) - 1 := ⟨_, rfl⟩
      have hwM : IntKind.i64.wrap ((L : Int) - 1) = M := by rw [IntKind.wrap_i64]; omega
      have HM := Lib.hid (show M + 1 = (L : Int) by omega)
      clear hE hQ hT hcx hcs hC hM
      go_upto_region 4 with fail
      refine wp_region_grow (by kernel_rfl) (by kernel_rfl) ?_
      repeat go_big_quiet_step (fail)
      refine wpQuiet_nil ?_
      rintro X5 ⟨⟨_, hX5⟩, rfl⟩
      have hT5 := HT1.out.on hX5
      have p0 := hT5.pos.c0
      have p1 := hT5.pos.c1
      have pz := fun j => frozen_of_row X5 w.heap.size j _ _ hT5.pos
      have hT6 := hT5.set0 M
      have hcnt : So.cnt w.heap.size wr = L := by
        have := HT1.out.pos.c0
        unfold So.cnt
        rw [this]; simp [RowKit.intOf]
      have HT6 := Lib.hid (And.intro hT6 hcnt)
      have z := fun j => frozen_of_row _ (w.heap.size + 1) j _ _ hT6.res
      have HB5 := Lib.hid hT5.below
      clear f0 f1 f2 hX5 hT5 hT6 hcnt
      by_cases hMn : 0 < L
      · obtain ⟨m, hm⟩ : ∃ m : Nat, M = m := ⟨L - 1, by have := HM.out; omega⟩
        subst hm
        have hmL : m + 1 = L := by have := HM.out; omega
        have e0 : decide ((m : Int) < 0) = false := decide_eq_false (by omega)
        have d2 : decide (n ≤ m) = false := decide_eq_false (by omega)
        obtain ⟨b', o', he', hcy, _, _⟩ := HS.out.read m (by omega)
        obtain ⟨rfl, rfl⟩ : b' = b ∧ o' = o := by
          injection he' with he'
          injection he' with h1 h2
          exact ⟨h1.symm, h2.symm⟩
        rw [← lineAt_get (ls := ls) (k := m) (by omega)] at hcy
        have hz : (lineAt ls m).size ≤ 140737488355328 := by rw [lineAt_get (by omega)]; exact HSZ.out _ (List.getElem_mem _)
        have hfr := ((Below.refl _ w).trans (HT6.out.1.set1 0).below)
        have c9 := cell_later hfr hcy
        have HE2 := Lib.hid (HE.out.trans (by rw [← hmL, bfr_line] : (bfr ls L 0).reverse = (bfr ls m (lineAt ls m).size).reverse))
        obtain ⟨Z, hZ⟩ : ∃ Z, Z = ((lineAt ls m).size : Int) - 1 := ⟨_, rfl⟩
        have hwZ : IntKind.i64.wrap (((lineAt ls m).size : Int) - 1) = Z := by rw [IntKind.wrap_i64]; omega
        have HZ := Lib.hid (show Z + 1 = ((lineAt ls m).size : Int) by omega)
        have HML := Lib.hid hmL
        have q0 := (HT6.out.1.set1 0).pos.c0
        have q1 := (HT6.out.1.set1 0).pos.c1
        have qz := fun j => frozen_of_row _ w.heap.size j _ _ (HT6.out.1.set1 0).pos
        clear hfr hcy hZ hmL he'
        go_wp2
        go_roundw
        case rel =>
          refine ⟨m, (lineAt ls m).size, Z, by omega, Nat.le_refl _, HZ.out, ?_, HE2.out⟩
          exact (HT6.out.1.set1 0).set1 Z
        case measure =>
          have h1 := HT6.out.2
          have h2 := ((HT6.out.1.set1 0).set1 Z).pos.c0
          have h3 := HML.out
          rw [h1]
          unfold So.cnt
          rw [h2]
          simp [RowKit.intOf]
          omega
      · have e0 : decide (M < 0) = true := decide_eq_true (by have := HM.out; omega)
        have hnil : (bfr ls i k).reverse = [] := by rw [HE.out, show L = 0 by omega, bfr_zero]; rfl
        have HNL := Lib.hid hnil
        have p0' := HT6.out.1.pos.c0
        have p1' := HT6.out.1.pos.c1
        have r0 := HT6.out.1.res.c0
        have r1 := HT6.out.1.res.c1
        clear hnil
        go_wp2
        obtain ⟨hg, hb⟩ := HT6.out.1.ret M C
        refine ret_ps (g := w.heap.size + 1) (x := M) (y := C) (ok := false) rfl rfl rfl rfl hg ?_
        exact ⟨.inr ⟨HNL.out, _, _, rfl⟩, hb⟩
theorem step_any (a : Option Addr) (n c' : Nat) (ls : List ByteArray) (i k : Nat) (back : Bool) (w : World) (h : Ss w a n c' ls) (hs : ∀ s ∈ ls, s.size ≤ 140737488355328) (hn6 : n ≤ 1000000) (hi : i < n) (hk : k < (lineAt ls i).size) :
    Calls Try.prog 34 #[.slice a n c', .agg #[.int .i64 i, .int .i64 k], .bool back] w fun e w' => StOut (nx ls back i k) e ∧ Below w.heap.size w w' := by
  cases back with
  | false => exact step_fwd a n c' ls i k w h hs hn6 hi hk
  | true => exact step_bwd a n c' ls i k w h hs hn6 hi hk
end Go.Proofs.Ytbimblfkkmpieaa.Pr
