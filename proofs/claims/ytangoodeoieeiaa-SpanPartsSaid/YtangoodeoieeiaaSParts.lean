/-
  The law SpanParts, walked.
-/
import Derived.Test.YtangoodeoieeiaaSq
set_option linter.unusedVariables false
set_option linter.unusedSimpArgs false
set_option maxRecDepth 100000
namespace Go.Proofs.Ytangoodeoieeiaa.SParts
open Go Go.RowKit Go.Proofs.Ytangoodeoieeiaa.Vk Go.Proofs.Ytangoodeoieeiaa.Str Go.Proofs.Ytangoodeoieeiaa.Ln Go.Proofs.Ytangoodeoieeiaa.Cl Go.Proofs.Ytangoodeoieeiaa.So
attribute [local go_sem] Oper.semAt_some

/-- What order does of two places that are both Q. -/
theorem ord_two (Q : Int → Int → Prop) (a b c d : Int) (h1 : Q a b) (h2 : Q c d) : ∃ p q r s : Int, (if lt c d a b = true then Value.tuple #[.agg #[.int .i64 c, .int .i64 d], .agg #[.int .i64 a, .int .i64 b]] else .tuple #[.agg #[.int .i64 a, .int .i64 b], .agg #[.int .i64 c, .int .i64 d]]) = .tuple #[.agg #[.int .i64 p, .int .i64 q], .agg #[.int .i64 r, .int .i64 s]] ∧ Q p q ∧ Q r s ∧ lt r s p q = false := by
  by_cases h : lt c d a b = true
  · rw [if_pos h]
    refine ⟨_, _, _, _, rfl, h2, h1, ?_⟩
    unfold lt at h ⊢
    rw [decide_eq_true_eq] at h
    rw [decide_eq_false_iff_not]
    omega
  · rw [if_neg h]
    exact ⟨_, _, _, _, rfl, h1, h2, by simpa using h⟩

/-- Three places in their blocks. -/
def Three (w : World) (X Y Z : Nat) (a b c d e f : Int) : Prop :=
  w.heap[X]? = some (.cells #[.int .i64 a, .int .i64 b] 23 (0, 0)) ∧ w.heap[Y]? = some (.cells #[.int .i64 c, .int .i64 d] 23 (0, 0)) ∧ w.heap[Z]? = some (.cells #[.int .i64 e, .int .i64 f] 23 (0, 0))
theorem Three.below {w w' : World} {X Y Z : Nat} {a b c d e f : Int} (h : Three w X Y Z a b c d e f) (hb : Below w.heap.size w w') : Three w' X Y Z a b c d e f :=
  ⟨(hb.block _ (Array.getElem?_eq_some_iff.1 h.1).1).trans h.1, (hb.block _ (Array.getElem?_eq_some_iff.1 h.2.1).1).trans h.2.1, (hb.block _ (Array.getElem?_eq_some_iff.1 h.2.2).1).trans h.2.2⟩
theorem Three.cells {w : World} {X Y Z : Nat} {a b c d e f : Int} (h : Three w X Y Z a b c d e f) :
    (w.cell? ⟨X, 0, none⟩ = some (.int .i64 a) ∧ w.cell? ⟨X, 1, none⟩ = some (.int .i64 b)) ∧ (w.cell? ⟨Y, 0, none⟩ = some (.int .i64 c) ∧ w.cell? ⟨Y, 1, none⟩ = some (.int .i64 d)) ∧ (w.cell? ⟨Z, 0, none⟩ = some (.int .i64 e) ∧ w.cell? ⟨Z, 1, none⟩ = some (.int .i64 f)) :=
  ⟨⟨(cell_of_row w _ 0 _ _ _ h.1).trans (by simp), (cell_of_row w _ 1 _ _ _ h.1).trans (by simp)⟩, ⟨(cell_of_row w _ 0 _ _ _ h.2.1).trans (by simp), (cell_of_row w _ 1 _ _ _ h.2.1).trans (by simp)⟩, ⟨(cell_of_row w _ 0 _ _ _ h.2.2).trans (by simp), (cell_of_row w _ 1 _ _ _ h.2.2).trans (by simp)⟩⟩
theorem Three.frozen {w : World} {X Y Z : Nat} {a b c d e f : Int} (h : Three w X Y Z a b c d e f) :
    (w.frozen? ⟨X, 0, none⟩ = false ∧ w.frozen? ⟨X, 1, none⟩ = false) ∧ (w.frozen? ⟨Y, 0, none⟩ = false ∧ w.frozen? ⟨Y, 1, none⟩ = false) ∧ (w.frozen? ⟨Z, 0, none⟩ = false ∧ w.frozen? ⟨Z, 1, none⟩ = false) :=
  ⟨⟨frozen_of_row w _ 0 _ _ h.1, frozen_of_row w _ 1 _ _ h.1⟩, ⟨frozen_of_row w _ 0 _ _ h.2.1, frozen_of_row w _ 1 _ _ h.2.1⟩, ⟨frozen_of_row w _ 0 _ _ h.2.2, frozen_of_row w _ 1 _ _ h.2.2⟩⟩
theorem set2_below {B : Nat} {w w1 : World} {g : Nat} {x y : Value} (h : Below B w w1) (h0 : B ≤ g) : Below B w ((w1.setCell ⟨g, 0, none⟩ x).setCell ⟨g, 1, none⟩ y) :=
  (h.setCell (p := ⟨g, 0, none⟩) h0 _).setCell (p := ⟨g, 1, none⟩) h0 _

set_option maxHeartbeats 8000000 in
theorem walk (a : Option Addr) (n c : Nat) (ls : List ByteArray) (x0 x1 x2 x3 x4 x5 : Int) (w : World) (h : Ss w a n c ls) (hs : ∀ s ∈ ls, s.size ≤ 140737488355328)
    (h0 : (Lit.int .u16 x0).wf = true) (h1 : (Lit.int .u16 x1).wf = true) (h2 : (Lit.int .u16 x2).wf = true) (h3 : (Lit.int .u16 x3).wf = true) (h4 : (Lit.int .u16 x4).wf = true) (h5 : (Lit.int .u16 x5).wf = true) :
    Calls Try.prog 5 #[.slice a n c, .int .u16 x0, .int .u16 x1, .int .u16 x2, .int .u16 x3, .int .u16 x4, .int .u16 x5] w fun e w' => e = .returned (.bool true) ∧ Below w.heap.size w w' := by
  have b0 : 0 ≤ x0 ∧ x0 ≤ 65535 := by simpa [Lit.wf, IntKind.min, IntKind.max, IntKind.signed, IntKind.bits] using h0
  have b1 : 0 ≤ x1 ∧ x1 ≤ 65535 := by simpa [Lit.wf, IntKind.min, IntKind.max, IntKind.signed, IntKind.bits] using h1
  have b2 : 0 ≤ x2 ∧ x2 ≤ 65535 := by simpa [Lit.wf, IntKind.min, IntKind.max, IntKind.signed, IntKind.bits] using h2
  have b3 : 0 ≤ x3 ∧ x3 ≤ 65535 := by simpa [Lit.wf, IntKind.min, IntKind.max, IntKind.signed, IntKind.bits] using h3
  have b4 : 0 ≤ x4 ∧ x4 ≤ 65535 := by simpa [Lit.wf, IntKind.min, IntKind.max, IntKind.signed, IntKind.bits] using h4
  have b5 : 0 ≤ x5 ∧ x5 ≤ 65535 := by simpa [Lit.wf, IntKind.min, IntKind.max, IntKind.signed, IntKind.bits] using h5
  clear h0 h1 h2 h3 h4 h5
  have hk := known_any w
  have hlen := h.length
  go_enter Try.func5, Try.ntmps5
  go_wp2_with fail
  refine hk.mono ?_
  rintro e w1 ⟨rfl, hb1⟩
  have htx := text_any a n c ls w1 (SrcV.below h hb1) hs
  have HS1 := Lib.hid (SrcV.below h hb1)
  have HB1 := Lib.hid hb1
  clear hk hb1 h
  go_wp2_with fail
  refine htx.mono ?_
  rintro e w' ⟨q, rfl, rfl, hq⟩
  clear htx
  cases q
  · clear hq
    go_wp2
    go_ret
    exact ⟨rfl, HB1.out⟩
  obtain ⟨hn0, hn40, htz, _⟩ := hq rfl
  clear hq
  have p1 := place_any a n c ls x0 x1 w1 HS1.out hn0 hs b0 b1
  have p2 := fun W (hW : Below w1.heap.size w1 W) => place_any a n c ls x2 x3 W (SrcV.below HS1.out hW) hn0 hs b2 b3
  have p3 := fun W (hW : Below w1.heap.size w1 W) => place_any a n c ls x4 x5 W (SrcV.below HS1.out hW) hn0 hs b4 b5
  have HP3 := Lib.hid p3
  clear p3
  go_wp2_with fail
  refine p1.mono ?_
  rintro e w2 ⟨⟨l1, c1, rfl, hP1⟩, hb2⟩
  have p2' := p2 w2 hb2
  have HB2 := Lib.hid hb2
  have HP1 := Lib.hid hP1
  clear p1 p2 hb2 hP1
  go_wp2_with fail
  refine p2'.mono ?_
  rintro e w3 ⟨⟨l2, c2, rfl, hP2⟩, hb3⟩
  have HB3 := Lib.hid (HB2.out.trans (hb3.mono HB2.out.size))
  have ho := order_any l1 c1 l2 c2 w3
  obtain ⟨xl, xc, yl, yc, hsh, hX, hY, hxy⟩ := ord_two (Plc ls) l1 c1 l2 c2 HP1.out hP2
  rw [hsh] at ho
  have HXY := Lib.hid (And.intro hX (And.intro hY hxy))
  clear p2' hb3 hP2 hsh hX hY hxy HP1 HB2
  go_wp2_with fail
  refine ho.mono ?_
  rintro e w4 ⟨rfl, hb4⟩
  have hb14 := HB3.out.trans (hb4.mono HB3.out.size)
  obtain ⟨w5, hw5⟩ : ∃ w5, w5 = (w4.alloc (.cells #[.int .i64 xl, .int .i64 xc] 23)).alloc (.cells #[.int .i64 yl, .int .i64 yc] 23) := ⟨_, rfl⟩
  have hb5 : Below w4.heap.size w4 w5 := by rw [hw5]; exact two_below _ _ _
  have hz5 : w5.heap.size = w4.heap.size + 2 := by rw [hw5]; simp
  have g4 : w5.heap[w4.heap.size]? = some (.cells #[.int .i64 xl, .int .i64 xc] 23 (0, 0)) := by rw [hw5]; exact (Below.heap_alloc _ _ _ (by simp)).trans (heap_alloc_new w4 _)
  have g5 : w5.heap[w4.heap.size + 1]? = some (.cells #[.int .i64 yl, .int .i64 yc] 23 (0, 0)) := by rw [hw5]; exact two_new w4 _ _
  have hb15 := hb14.trans (hb5.mono hb14.size)
  have p3 := HP3.out w5 hb15
  have hz14 := hb14.size
  have HW5 := Lib.hid hw5
  have H5 := Lib.hid (And.intro hb15 (And.intro g4 g5))
  clear ho hb4 hb14 hw5 hb5 g4 g5 hb15 HP3
  go_wp2_with fail
  rw [← HW5.out]
  refine p3.mono ?_
  rintro e w6 ⟨⟨zl, zc, rfl, hZ⟩, hb6⟩
  have HZ := Lib.hid hZ
  obtain ⟨hb15, g4, g5⟩ := H5.out
  have hz6 := hb6.size
  have g4 := (hb6.block _ (by omega)).trans g4
  have g5 := (hb6.block _ (by omega)).trans g5
  obtain ⟨w7, hw7⟩ : ∃ w7, w7 = w6.alloc (.cells #[.int .i64 zl, .int .i64 zc] 23) := ⟨_, rfl⟩
  have hb7 : Below w6.heap.size w6 w7 := by rw [hw7]; exact (Below.refl _ _).alloc (Nat.le_refl _) _
  have g6 : w7.heap[w6.heap.size]? = some (.cells #[.int .i64 zl, .int .i64 zc] 23 (0, 0)) := by rw [hw7]; exact heap_alloc_new w6 _
  have k2 := cell_one (show w6.cell? ⟨w4.heap.size + 1, 0, none⟩ = some (.int .i64 yl) from (cell_of_row w6 _ 0 _ _ _ g5).trans (by simp))
  have k3 := cell_one (show w6.cell? ⟨w4.heap.size + 1, 1, none⟩ = some (.int .i64 yc) from (cell_of_row w6 _ 1 _ _ _ g5).trans (by simp))
  have hT : Three w7 w4.heap.size (w4.heap.size + 1) w6.heap.size xl xc yl yc zl zc := ⟨(hb7.block _ (by omega)).trans g4, (hb7.block _ (by omega)).trans g5, g6⟩
  have hb17 := hb15.trans ((hb6.trans (hb7.mono hb6.size)).mono hb15.size)
  have hl := less_any zl zc yl yc w7
  have HW7 := Lib.hid hw7
  have H7 := Lib.hid (And.intro hb17 hT)
  clear p3 hZ hb15 g4 g5 hb6 hw7 hb7 g6 hT hb17 H5 HW5
  obtain ⟨X, hX⟩ : ∃ X, X = w4.heap.size := ⟨_, rfl⟩
  obtain ⟨Z, hZ⟩ : ∃ Z, Z = w6.heap.size := ⟨_, rfl⟩
  go_wp2_with fail
  rw [← HW7.out]
  refine hl.mono ?_
  rintro e w8 ⟨rfl, hb8⟩
  rw [← hX, ← hZ] at H7
  rw [← hX, ← hZ]
  have hXZ : X + 1 < Z ∧ w1.heap.size ≤ X := by omega
  have HXZ := Lib.hid hXZ
  have hT8 := H7.out.2.below hb8
  have hb18 := H7.out.1.trans (hb8.mono H7.out.1.size)
  clear hl k2 k3 hb8 HW7 H7 HB3 hX hZ hz5 hz6 hz14
  obtain ⟨⟨i0, i1⟩, ⟨i2, i3⟩, i4, i5⟩ := hT8.cells
  obtain ⟨⟨j0, j1⟩, ⟨j2, j3⟩, j4, j5⟩ := hT8.frozen
  have H8 := Lib.hid (And.intro hb18 hT8)
  clear hb18 hT8
  have hlt8 : lt zl zc xl xc = false ∨ lt zl zc yl yc = true := by
    by_cases hh : lt zl zc yl yc = true
    · exact .inr hh
    · refine .inl ?_
      have h1 := HXY.out.2.2
      unfold lt at h1 hh ⊢
      simp only [decide_eq_true_eq, decide_eq_false_iff_not] at h1 hh ⊢
      omega
  have HL8 := Lib.hid hlt8
  clear hlt8
  cases hq : lt zl zc yl yc
  · have HQ := Lib.hid (show (Plc ls xl xc ∧ lt zl zc xl xc = false) ∧ (Plc ls yl yc ∧ lt zl zc yl yc = false) ∧ Plc ls zl zc from ⟨⟨HXY.out.1, HL8.out.elim id (fun h => by rw [hq] at h; cases h)⟩, ⟨HXY.out.2.1, hq⟩, HZ.out⟩)
    clear hq HL8 HXY HZ
    go_wp2_with fail
    obtain ⟨w9, hw9⟩ : ∃ w9, w9 = w8 := ⟨_, rfl⟩
    rw [← hw9] at H8 ⊢
    have H9 := H8
    clear hw9 H8 i0 i1 i2 i3 i4 i5 j0 j1 j2 j3 j4 j5
    have hb19 := H9.out.1
    have T9 := H9.out.2
    have ho := order_any xl xc yl yc w9
    obtain ⟨p, q, r, s, hsh, hQ1, hQ2, hpr⟩ := ord_two (fun l c => Plc ls l c ∧ lt zl zc l c = false) xl xc yl yc HQ.out.1 HQ.out.2.1
    rw [hsh] at ho
    have HPQ := Lib.hid (And.intro hQ1 (And.intro hQ2 hpr))
    have HZP := Lib.hid HQ.out.2.2
    clear hsh hQ1 hQ2 hpr HQ
    refine ho.mono ?_
    rintro e w10 ⟨rfl, hb10⟩
    have T10 := T9.below hb10
    have hb1A := hb19.trans (hb10.mono hb19.size)
    obtain ⟨⟨i0, i1⟩, ⟨i2, i3⟩, i4, i5⟩ := T10.cells
    obtain ⟨⟨j0, j1⟩, ⟨j2, j3⟩, j4, j5⟩ := T10.frozen
    obtain ⟨w11, hw11⟩ : ∃ w11, w11 = (((w10.setCell ⟨X, 0, none⟩ (.int .i64 p)).setCell ⟨X, 1, none⟩ (.int .i64 q)).setCell ⟨X + 1, 0, none⟩ (.int .i64 r)).setCell ⟨X + 1, 1, none⟩ (.int .i64 s) := ⟨_, rfl⟩
    have T11 : Three w11 X (X + 1) Z p q r s zl zc := by
      rw [hw11]
      exact ⟨(set2_other (by omega)).trans (set2 T10.1), set2 ((set2_other (by omega)).trans T10.2.1), ((set2_other (by omega)).trans (set2_other (by omega))).trans T10.2.2⟩
    have hb1B : Below w1.heap.size w1 w11 := by
      rw [hw11]
      exact set2_below (set2_below hb1A (by omega)) (by omega)
    have hsz1 := hb1B.size
    have HW11 := Lib.hid hw11
    have t1 := text_ok a n c ls 0 p q r s w11 (SrcV.below HS1.out hb1B) hs (vld_char HPQ.out.1.1 HPQ.out.2.1.1 HPQ.out.2.2) (by omega)
    obtain ⟨S, hS⟩ : ∃ S, S = txt ls 0 p q r s := ⟨_, rfl⟩
    rw [← hS] at t1
    obtain ⟨k, hk⟩ : ∃ k, S.length = k + 1 := ⟨S.length - 1, by rw [hS, txt_length]; have h1 := HPQ.out.2.2; unfold lt at h1; rw [decide_eq_false_iff_not] at h1; omega⟩
    rw [hk] at t1
    have HS := Lib.hid (And.intro hS hk)
    have H11 := Lib.hid (And.intro hb1B T11)
    clear ho hb19 T9 hb10 T10 hb1A hw11 hS hk H9 T11 hb1B
    go_wp2_with fail
    rw [← HW11.out]
    refine t1.mono ?_
    rintro e w12 ⟨bs, cs, rfl, ss, hb12, _⟩
    have T12 := H11.out.2.below hb12
    have hb1C := H11.out.1.trans (hb12.mono H11.out.1.size)
    have hsz2 := hb12.size
    have t2 := text_ok a n c ls 0 r s zl zc w12 (SrcV.below HS1.out hb1C) hs (vld_char HPQ.out.2.1.1 HZP.out HPQ.out.2.1.2) (by omega)
    obtain ⟨T, hT⟩ : ∃ T, T = txt ls 0 r s zl zc := ⟨_, rfl⟩
    rw [← hT] at t2
    obtain ⟨m, hm⟩ : ∃ m, T.length = m + 1 := ⟨T.length - 1, by rw [hT, txt_length]; have h1 := HPQ.out.2.1.2; unfold lt at h1; rw [decide_eq_false_iff_not] at h1; omega⟩
    rw [hm] at t2
    have HT := Lib.hid (And.intro hT hm)
    have H12 := Lib.hid (And.intro hb1C T12)
    have HSS := Lib.hid ss
    clear i0 i1 i2 i3 i4 i5 j0 j1 j2 j3 j4 j5
    obtain ⟨⟨i0, i1⟩, ⟨i2, i3⟩, i4, i5⟩ := T12.cells
    clear t1 ss hb12 T12 hb1C hT hm H11 HW11
    go_wp2_with fail
    refine t2.mono ?_
    rintro e w13 ⟨bt, ct, rfl, tt, hb13, _⟩
    have T13 := H12.out.2.below hb13
    have hb1D := H12.out.1.trans (hb13.mono H12.out.1.size)
    have hsz3 := hb13.size
    have hps : lt zl zc p q = false := HPQ.out.1.2
    have t3 := text_ok a n c ls 0 p q zl zc w13 (SrcV.below HS1.out hb1D) hs (vld_char HPQ.out.1.1 HZP.out hps) (by omega)
    obtain ⟨U, hU⟩ : ∃ U, U = txt ls 0 p q zl zc := ⟨_, rfl⟩
    rw [← hU] at t3
    have HU := Lib.hid hU
    have H13 := Lib.hid (And.intro hb1D (SrcV.below HSS.out hb13))
    have HTT := Lib.hid tt
    clear i0 i1 i2 i3 i4 i5
    obtain ⟨⟨i0, i1⟩, ⟨i2, i3⟩, i4, i5⟩ := T13.cells
    clear t2 tt hb13 T13 hb1D hU H12 HSS hps
    go_wp2_with fail
    refine t3.mono ?_
    rintro e w14 ⟨bu, cu, rfl, uu, hb14, _⟩
    have hb1E := H13.out.1.trans (hb14.mono H13.out.1.size)
    have sE := SrcV.below H13.out.2 hb14
    have tE := SrcV.below HTT.out hb14
    have H14 := Lib.hid (And.intro hb1E (And.intro sE (And.intro tE uu)))
    clear t3 uu hb14 hb1E i0 i1 i2 i3 i4 i5 H13 HTT
    have hkl := sE.2.2.1
    have hmll := tE.2.2.1
    obtain ⟨sb, so, rfl, hsc, hsk, _⟩ := Ss.read sE k (by have := HS.out.2; omega)
    obtain ⟨tb, to, rfl, htc, htk, _⟩ := Ss.read tE 0 (by have := HT.out.2; omega)
    obtain ⟨g1, hg1⟩ : ∃ g1, g1 = S[k]'(by have := HS.out.2; omega) := ⟨_, rfl⟩
    obtain ⟨g2, hg2⟩ : ∃ g2, g2 = T[0]'(by have := HT.out.2; omega) := ⟨_, rfl⟩
    rw [← hg1] at hsc
    rw [← hg2] at htc
    have hgz1 : g1.size ≤ 1240 := by
      have := txt_size ls 0 p q r s 1240 (fun st hst => by have := tz_mem ls st hst; omega) g1 (by rw [← HS.out.1, hg1]; exact List.getElem_mem _)
      exact this
    have hgz2 : g2.size ≤ 1240 := by
      have := txt_size ls 0 r s zl zc 1240 (fun st hst => by have := tz_mem ls st hst; omega) g2 (by rw [← HT.out.1, hg2]; exact List.getElem_mem _)
      exact this
    have HG := Lib.hid (And.intro (List.getElem?_eq_getElem (l := S) (i := k) (by have := HS.out.2; omega)) (List.getElem?_eq_getElem (l := T) (i := 0) (by have := HT.out.2; omega)))
    rw [← hg1, ← hg2] at HG
    rw [Nat.add_zero] at htc
    clear hg1 hg2 sE tE
    have hkn : k ≤ 1000000 := by have h1 := HS.out.2; rw [HS.out.1, txt_length] at h1; have := HPQ.out.2.1.1.2.1; have := HPQ.out.1.1.1; omega
    have hmn : m ≤ 1000000 := by have h1 := HT.out.2; rw [HT.out.1, txt_length] at h1; have := HZP.out.2.1; have := HPQ.out.2.1.1.1; omega
    have hw1 : IntKind.i64.wrap (((k + 1 : Nat) : Int) - 1) = (k : Int) := by rw [IntKind.wrap_i64]; omega
    have hw2 : IntKind.i64.wrap ((k : Int) + 1 - 1) = (k : Int) := by rw [IntKind.wrap_i64]; omega
    have hd1 : ((k : Int) + 1 == 0) = false := by rw [beq_eq_false_iff_ne]; omega
    have hd2 : ((m : Int) + 1 == 0) = false := by rw [beq_eq_false_iff_ne]; omega
    obtain ⟨i0, hi0, hz0, hz1', hz2'⟩ := info_parts infoS
    have hmx : Try.prog.follows .mixedOrders = true := by kernel_rfl
    obtain ⟨SP, hSP⟩ : ∃ SP : World → Prop, SP = fun W => W.cell? ⟨sb, so + k, none⟩ = some (.string g1) ∧ W.cell? ⟨tb, to, none⟩ = some (.string g2) := ⟨_, rfl⟩
    have hSI : ∀ W, SP W → W.cell? ⟨sb, so + k, none⟩ = some (.string g1) ∧ W.cell? ⟨tb, to, none⟩ = some (.string g2) := fun W hW => by rw [hSP] at hW; exact hW
    have hSB : ∀ W, Below w14.heap.size w14 W → SP W := fun W hW => by rw [hSP]; exact ⟨cell_later hW hsc, cell_later hW htc⟩
    have HSI := Lib.hid hSI
    have HSB := Lib.hid hSB
    have hgg : ¬ (9223372036854775807 : Int) < g1.size + g2.size := by omega
    have hgg' : ¬ 9223372036854775807 < g1.size + g2.size := by omega
    have hks : k ≤ cs := by omega
    have hk1 : k < k + 1 := by omega
    clear hSP hSI hSB hsc htc hw1 hkl hmll
    go_wp2_with fail
    have hS0 : SP w14.drew := HSB.out _ (Below.refl _ w14).drew
    refine wp_region_held (S := SP) hmx ?_
    refine wpAnyH_take (i := 0) (v := .slice (some ⟨sb, so, none⟩) (k + 1) cs) rfl (by kernel_rfl) (by kernel_rfl) (by kernel_rfl) (fun _ _ _ h => h) (Or.inl ⟨by rfl, fun w' hw => by go_simp⟩) hS0 ?_
    simp only [Act.put]
    refine wpAnyH_take (i := 1) (v := .int .i64 k) rfl (by kernel_rfl) (by kernel_rfl) (by kernel_rfl) (fun _ _ _ h => h) (Or.inl ⟨by rfl, fun w' hw => by go_simp⟩) hS0 ?_
    simp only [Act.put]
    refine wpAnyH_take (i := 2) (v := .slice (some ⟨sb, so, none⟩) k cs) rfl (by kernel_rfl) (by kernel_rfl) (by kernel_rfl) (fun _ _ _ h => h) (Or.inl ⟨by rfl, fun w' hw => by go_simp⟩) hS0 ?_
    simp only [Act.put]
    refine wpAnyH_take (i := 4) (v := .slice (some ⟨sb, so, none⟩) (k + 1) cs) rfl (by kernel_rfl) (by kernel_rfl) (by kernel_rfl) (fun _ _ _ h => h) (Or.inl ⟨by rfl, fun w' hw => by go_simp⟩) hS0 ?_
    simp only [Act.put]
    refine wpAnyH_take (i := 5) (v := .int .i64 k) rfl (by kernel_rfl) (by kernel_rfl) (by kernel_rfl) (fun _ _ _ h => h) (Or.inl ⟨by rfl, fun w' hw => by go_simp⟩) hS0 ?_
    simp only [Act.put]
    refine wpAnyH_take (i := 6) (v := .pointer (some ⟨sb, so + k, none⟩)) rfl (by kernel_rfl) (by kernel_rfl) (by kernel_rfl) (fun _ _ _ h => h) (Or.inl ⟨by rfl, fun w' hw => by go_simp; intro hx; omega⟩) hS0 ?_
    simp only [Act.put]
    refine wpAnyH_take (i := 7) (v := .string g1) rfl (by kernel_rfl) (by kernel_rfl) (by kernel_rfl) (fun _ _ _ h => h) (Or.inl ⟨by rfl, fun w' hw => by obtain ⟨s0, s1⟩ := HSI.out w' hw; go_simp⟩) hS0 ?_
    simp only [Act.put]
    refine wpAnyH_take (i := 8) (v := .slice (some ⟨tb, to, none⟩) (m + 1) ct) rfl (by kernel_rfl) (by kernel_rfl) (by kernel_rfl) (fun _ _ _ h => h) (Or.inl ⟨by rfl, fun w' hw => by go_simp⟩) hS0 ?_
    simp only [Act.put]
    refine wpAnyH_take (i := 9) (v := .pointer (some ⟨tb, to, none⟩)) rfl (by kernel_rfl) (by kernel_rfl) (by kernel_rfl) (fun _ _ _ h => h) (Or.inl ⟨by rfl, fun w' hw => by go_simp⟩) hS0 ?_
    simp only [Act.put]
    refine wpAnyH_take (i := 10) (v := .string g2) rfl (by kernel_rfl) (by kernel_rfl) (by kernel_rfl) (fun _ _ _ h => h) (Or.inl ⟨by rfl, fun w' hw => by obtain ⟨s0, s1⟩ := HSI.out w' hw; go_simp⟩) hS0 ?_
    simp only [Act.put]
    refine wpAnyH_take (i := 11) (v := .string (g1 ++ g2)) rfl (by kernel_rfl) (by kernel_rfl) (by kernel_rfl) (fun _ _ _ h => h) (Or.inl ⟨by rfl, fun w' hw => by go_simp⟩) hS0 ?_
    simp only [Act.put]
    obtain ⟨L, hL⟩ : ∃ L, L = (S.map Value.string).take k := ⟨_, rfl⟩
    have HL := Lib.hid hL
    have hLl : L.length = k := by rw [hL, List.length_take, List.length_map, HS.out.2]; omega
    have HLl := Lib.hid hLl
    have hsl : SrcV w14.drew 1 (.slice (some ⟨sb, so, none⟩) k cs) k L := by
      rw [hL]
      have h1 := H14.out.2.1
      exact (SrcV.take h1 (by have := HS.out.2; omega)).drew
    have HSL := Lib.hid hsl
    clear hL hLl hsl
    have hbd : Below w14.heap.size w14 w14.drew := (Below.refl _ w14).drew
    have HBD := Lib.hid hbd
    clear hbd
    refine wpAnyH_ready (rs := [3, 12]) (by kernel_rfl) (by simp) ?_
    refine AllReadyH.cons rfl (fun K hK => ?fa1) (AllReadyH.cons rfl (fun K hK => ?fb1) AllReadyH.nil)
    case' fa1 =>
      refine step_append_srcv rfl (.const (.slice none 0 0)) (.tmp 83) 29 rfl w14.heap.size ES i0 (.string ⟨#[]⟩) 1 16 underS hi0 hz0 hz1' hz2' rfl (by decide) (.slice none 0 0) 0 [] (by simp [Act.eval]) (World.ownsRow_nil _ _ _ _) (.slice (some ⟨sb, so, none⟩) k cs) k L (by simp [Act.eval]) HSL.out (by simp only [maxLen]; omega) (by omega) (Nat.le_refl _) ?_
      intro ob oc wA hown hg hnr
      rw [Nat.zero_add] at hown
      rw [List.nil_append] at hown
      have hfA : Fr (fun _ => False) w14 wA := ((Fr.refl _ w14).drew).trans ((Fr.refl _ w14.drew).grown hg (by intro i hi; simp [Value.ownBlock] at hi))
      have hbA : Below w14.heap.size w14 wA := hfA.below (Nat.le_refl _) (by simp)
      have HA := Lib.hid (And.intro hown hbA)
      have hSA := HSB.out wA hbA
      clear hown hg hnr hfA hbA
      simp only [Nat.zero_add]
      refine hK.out _ _ hSA (fun _ => ?_)
      clear hK K
      try simp only [Act.put]
      refine wpAnyH_ready (rs := [12]) (by kernel_rfl) (by simp) ?_
      refine AllReadyH.cons rfl (fun K hK => ?_) AllReadyH.nil
      go_simp
      obtain ⟨NB, hNB⟩ : ∃ NB, NB = wA.heap.size := ⟨_, rfl⟩
      rw [← hNB]
      obtain ⟨W, hW⟩ : ∃ W, W = wA.alloc (.cells #[.string (g1 ++ g2)] ES) := ⟨_, rfl⟩
      rw [← hW]
      have hbW : Below w14.heap.size w14 W := by rw [hW]; exact HA.out.2.alloc HA.out.2.size _
      have HF := Lib.hid (show W.ownsRow w14.heap.size ES 1 (.slice ob k oc) k L ∧ SrcV W 1 (.slice (some ⟨NB, 0, none⟩) 1 1) 1 [.string (g1 ++ g2)] ∧ Below w14.heap.size w14 W from
        ⟨by rw [hW]; exact ownsRow_fr HA.out.1 ((Fr.refl (fun _ => False) wA).alloc _) (by simp), by rw [hW, hNB]; exact SrcV.lit wA #[.string (g1 ++ g2)] ES 1 rfl (by simp [Value.oneCell']) (by simp [maxLen]), hbW⟩)
      have hSW := HSB.out W hbW
      clear hNB hW hbW hSA HA
      refine hK.out _ _ hSW (fun _ => ?_)
      clear hK K
      try simp only [Act.put]
    case' fb1 =>
      go_simp
      obtain ⟨NB, hNB⟩ : ∃ NB, NB = w14.heap.size := ⟨_, rfl⟩
      rw [← hNB]
      obtain ⟨wA, hwA⟩ : ∃ wA, wA = (w14.alloc (.cells #[.string (g1 ++ g2)] ES)).drew := ⟨_, rfl⟩
      rw [← hwA]
      have hbA : Below w14.heap.size w14 wA := by rw [hwA]; exact ((Below.refl _ w14).alloc (Nat.le_refl _) _).drew
      have HA := Lib.hid (And.intro hwA hbA)
      have hSA := HSB.out wA hbA
      clear hbA hwA
      refine hK.out _ _ hSA (fun _ => ?_)
      clear hK K
      try simp only [Act.put]
      refine wpAnyH_ready (rs := [3]) (by kernel_rfl) (by simp) ?_
      refine AllReadyH.cons rfl (fun K hK => ?_) AllReadyH.nil
      refine step_append_srcv rfl (.const (.slice none 0 0)) (.tmp 83) 29 rfl w14.heap.size ES i0 (.string ⟨#[]⟩) 1 16 underS hi0 hz0 hz1' hz2' rfl (by decide) (.slice none 0 0) 0 [] (by simp [Act.eval]) (World.ownsRow_nil _ _ _ _) (.slice (some ⟨sb, so, none⟩) k cs) k L (by simp [Act.eval]) (SrcV.below HSL.out ⟨HA.out.2.os, HA.out.2.tape, HA.out.2.output, HA.out.2.size, HA.out.2.block⟩) (by simp only [maxLen]; omega) (by omega) HA.out.2.size ?_
      intro ob oc W hown hg hnr
      rw [Nat.zero_add] at hown
      rw [List.nil_append] at hown
      have hfA : Fr (fun _ => False) wA W := (Fr.refl _ wA).grown hg (by intro i hi; simp [Value.ownBlock] at hi)
      have hbW : Below w14.heap.size w14 W := HA.out.2.trans (hfA.below (B := w14.heap.size) HA.out.2.size (by simp))
      have HF := Lib.hid (show W.ownsRow w14.heap.size ES 1 (.slice ob k oc) k L ∧ SrcV W 1 (.slice (some ⟨NB, 0, none⟩) 1 1) 1 [.string (g1 ++ g2)] ∧ Below w14.heap.size w14 W from
        ⟨hown, by rw [hNB]; exact SrcV.fr (by rw [HA.out.1]; exact (SrcV.lit w14 #[.string (g1 ++ g2)] ES 1 rfl (by simp [Value.oneCell']) (by simp [maxLen])).drew) hfA (by simp), hbW⟩)
      have hSW := HSB.out W hbW
      clear hown hg hnr hfA hbW hSA HA hNB
      simp only [Nat.zero_add]
      refine hK.out _ _ hSW (fun _ => ?_)
      clear hK K
      try simp only [Act.put]
    all_goals
      have hzW := HF.out.2.2.size
      refine wpAnyH_ready (rs := [13]) (by kernel_rfl) (by simp) ?_
      refine AllReadyH.cons rfl (fun K hK => ?_) AllReadyH.nil
      refine step_append_srcv rfl (.tmp 84) (.tmp 93) 29 rfl w14.heap.size ES i0 (.string ⟨#[]⟩) 1 16 underS hi0 hz0 hz1' hz2' rfl (by decide) (.slice ob k oc) k L (by simp [Act.eval]) HF.out.1 (.slice (some ⟨NB, 0, none⟩) 1 1) 1 [.string (g1 ++ g2)] (by simp [Act.eval]) HF.out.2.1 (by simp only [maxLen]; omega) (by omega) hzW ?_
      intro ob2 oc2 W2 hown2 hg2 hnr2
      have hb2 : Below w14.heap.size w14 W2 := HF.out.2.2.trans (((Fr.refl (fun i => (Value.slice ob k oc).ownBlock = some i) W).grown hg2 (fun i e _ => e)).below (B := w14.heap.size) hzW (fun i hi => (HF.out.1.lt i hi).1))
      have H2 := Lib.hid (And.intro hown2 hb2)
      have hS2 := HSB.out W2 hb2
      clear hown2 hg2 hnr2 hb2 hzW hSW HF
      refine hK.out _ _ hS2 (fun _ => ?_)
      clear hK K
      try simp only [Act.put]
      refine wpAnyH_ready (rs := [14]) (by kernel_rfl) (by simp) ?_
      refine AllReadyH.cons rfl (fun K hK => ?_) AllReadyH.nil
      go_simp
      refine hK.out _ _ hS2 (fun _ => ?_)
      clear hK K
      try simp only [Act.put]
      refine wpAnyH_done (by kernel_rfl) ?_ _
      have hzW2 := H2.out.2.size
      have htW := SrcV.below H14.out.2.2.1 H2.out.2
      obtain ⟨A, hA, hdr⟩ := SrcV.drop htW (k := 1) (by omega)
      have hmm1 : m + 1 - 1 = m := by omega
      rw [hmm1] at hdr
      have HDR := Lib.hid hdr
      have hm1c : 1 ≤ m + 1 := by omega
      have hm1d : m + 1 ≤ ct := by omega
      clear htW hdr
      go_wp2_with (at_builtin; go_must (refine append_srcv _ rfl (.tmp 95) (.tmp 97) 29 rfl w14.heap.size ES i0 (.string ⟨#[]⟩) 1 16 underS hi0 hz0 hz1' hz2' rfl (by decide) (.slice ob2 (k + 1) oc2) (k + 1) (L ++ [.string (g1 ++ g2)]) rfl H2.out.1 (.slice (some A) m (ct - 1)) m ((T.map Value.string).drop 1) rfl HDR.out (by simp only [maxLen]; omega) (by omega) hzW2 ?_); intro ob3 oc3 W3 hown3 hg3 hnr3; have hb3 : Below w14.heap.size w14 W3 := H2.out.2.trans (((Fr.refl (fun i => (Value.slice ob2 (k + 1) oc2).ownBlock = some i) W2).grown hg3 (fun i e _ => e)).below (B := w14.heap.size) hzW2 (fun i hi => (H2.out.1.lt i hi).1)); have H3 := Lib.hid (And.intro hown3 hb3); clear hown3 hg3 hnr3 hb3)
      have hLL : (L ++ [Value.string (g1 ++ g2)]) ++ (T.map Value.string).drop 1 = (S.take k ++ [g1 ++ g2] ++ T.drop 1).map Value.string := by rw [HL.out, List.map_append, List.map_append, List.map_take, List.map_drop]; rfl
      have hs3 : Ss W3 ob3 (k + 1 + m) oc3 (S.take k ++ [g1 ++ g2] ++ T.drop 1) := by
        have h1 := H3.out.1
        rw [hLL] at h1
        exact SrcV.ofOwn h1 (one_cells _)
      have hsu : Ss W3 bu U.length cu U := SrcV.below H14.out.2.2.2 H3.out.2
      have hj : S.take k ++ [g1 ++ g2] ++ T.drop 1 = U := by
        rw [HU.out]
        exact parts_join ls p q r s zl zc HPQ.out.1.1 HPQ.out.2.1.1 HZP.out HPQ.out.2.2 HPQ.out.2.1.2 S T HS.out.1 HT.out.1 k HS.out.2 g1 g2 HG.out.1 HG.out.2
      have hst := strings_any ob3 (k + 1 + m) oc3 _ bu U.length cu U W3 hs3 hsu
      rw [decide_eq_true hj] at hst
      have hbe : Below w.heap.size w W3 := HB1.out.trans ((H14.out.1.trans (H3.out.2.mono H14.out.1.size)).mono HB1.out.size)
      have HBE := Lib.hid hbe
      clear hLL hs3 hsu hj hbe
      refine hst.mono ?_
      rintro e w' ⟨rfl, j, rfl⟩
      clear hst
      go_wp2
      go_ret
      exact ⟨rfl, HBE.out.trans ⟨rfl, rfl, rfl, Nat.le_refl _, fun _ _ => rfl⟩⟩
  · have HQ := Lib.hid (show (Plc ls xl xc ∧ lt yl yc xl xc = false) ∧ (Plc ls zl zc ∧ lt yl yc zl zc = false) ∧ Plc ls yl yc from ⟨⟨HXY.out.1, HXY.out.2.2⟩, ⟨HZ.out, by unfold lt at hq ⊢; rw [decide_eq_true_eq] at hq; rw [decide_eq_false_iff_not]; omega⟩, HXY.out.2.1⟩)
    clear hq HL8 HXY HZ
    go_wp2_with fail
    obtain ⟨w9, hw9⟩ : ∃ w9, w9 = (((w8.setCell ⟨Z, 0, none⟩ (.int .i64 yl)).setCell ⟨Z, 1, none⟩ (.int .i64 yc)).setCell ⟨X + 1, 0, none⟩ (.int .i64 zl)).setCell ⟨X + 1, 1, none⟩ (.int .i64 zc) := ⟨_, rfl⟩
    rw [← hw9]
    have H9 : Hid (Below w1.heap.size w1 w9 ∧ Three w9 X (X + 1) Z xl xc zl zc yl yc) := by
      obtain ⟨hb, q1, q2, q3⟩ := H8.out
      rw [hw9]
      exact ⟨set2_below (set2_below hb (by omega)) (by omega), ((set2_other (by omega)).trans (set2_other (by omega))).trans q1, set2 ((set2_other (by omega)).trans q2), (set2_other (by omega)).trans (set2 q3)⟩
    clear hw9 H8 i0 i1 i2 i3 i4 i5 j0 j1 j2 j3 j4 j5
    have hb19 := H9.out.1
    have T9 := H9.out.2
    have ho := order_any xl xc zl zc w9
    obtain ⟨p, q, r, s, hsh, hQ1, hQ2, hpr⟩ := ord_two (fun l c => Plc ls l c ∧ lt yl yc l c = false) xl xc zl zc HQ.out.1 HQ.out.2.1
    rw [hsh] at ho
    have HPQ := Lib.hid (And.intro hQ1 (And.intro hQ2 hpr))
    have HZP := Lib.hid HQ.out.2.2
    clear hsh hQ1 hQ2 hpr HQ
    refine ho.mono ?_
    rintro e w10 ⟨rfl, hb10⟩
    have T10 := T9.below hb10
    have hb1A := hb19.trans (hb10.mono hb19.size)
    obtain ⟨⟨i0, i1⟩, ⟨i2, i3⟩, i4, i5⟩ := T10.cells
    obtain ⟨⟨j0, j1⟩, ⟨j2, j3⟩, j4, j5⟩ := T10.frozen
    obtain ⟨w11, hw11⟩ : ∃ w11, w11 = (((w10.setCell ⟨X, 0, none⟩ (.int .i64 p)).setCell ⟨X, 1, none⟩ (.int .i64 q)).setCell ⟨X + 1, 0, none⟩ (.int .i64 r)).setCell ⟨X + 1, 1, none⟩ (.int .i64 s) := ⟨_, rfl⟩
    have T11 : Three w11 X (X + 1) Z p q r s yl yc := by
      rw [hw11]
      exact ⟨(set2_other (by omega)).trans (set2 T10.1), set2 ((set2_other (by omega)).trans T10.2.1), ((set2_other (by omega)).trans (set2_other (by omega))).trans T10.2.2⟩
    have hb1B : Below w1.heap.size w1 w11 := by
      rw [hw11]
      exact set2_below (set2_below hb1A (by omega)) (by omega)
    have hsz1 := hb1B.size
    have HW11 := Lib.hid hw11
    have t1 := text_ok a n c ls 0 p q r s w11 (SrcV.below HS1.out hb1B) hs (vld_char HPQ.out.1.1 HPQ.out.2.1.1 HPQ.out.2.2) (by omega)
    obtain ⟨S, hS⟩ : ∃ S, S = txt ls 0 p q r s := ⟨_, rfl⟩
    rw [← hS] at t1
    obtain ⟨k, hk⟩ : ∃ k, S.length = k + 1 := ⟨S.length - 1, by rw [hS, txt_length]; have h1 := HPQ.out.2.2; unfold lt at h1; rw [decide_eq_false_iff_not] at h1; omega⟩
    rw [hk] at t1
    have HS := Lib.hid (And.intro hS hk)
    have H11 := Lib.hid (And.intro hb1B T11)
    clear ho hb19 T9 hb10 T10 hb1A hw11 hS hk H9 T11 hb1B
    go_wp2_with fail
    rw [← HW11.out]
    refine t1.mono ?_
    rintro e w12 ⟨bs, cs, rfl, ss, hb12, _⟩
    have T12 := H11.out.2.below hb12
    have hb1C := H11.out.1.trans (hb12.mono H11.out.1.size)
    have hsz2 := hb12.size
    have t2 := text_ok a n c ls 0 r s yl yc w12 (SrcV.below HS1.out hb1C) hs (vld_char HPQ.out.2.1.1 HZP.out HPQ.out.2.1.2) (by omega)
    obtain ⟨T, hT⟩ : ∃ T, T = txt ls 0 r s yl yc := ⟨_, rfl⟩
    rw [← hT] at t2
    obtain ⟨m, hm⟩ : ∃ m, T.length = m + 1 := ⟨T.length - 1, by rw [hT, txt_length]; have h1 := HPQ.out.2.1.2; unfold lt at h1; rw [decide_eq_false_iff_not] at h1; omega⟩
    rw [hm] at t2
    have HT := Lib.hid (And.intro hT hm)
    have H12 := Lib.hid (And.intro hb1C T12)
    have HSS := Lib.hid ss
    clear i0 i1 i2 i3 i4 i5 j0 j1 j2 j3 j4 j5
    obtain ⟨⟨i0, i1⟩, ⟨i2, i3⟩, i4, i5⟩ := T12.cells
    clear t1 ss hb12 T12 hb1C hT hm H11 HW11
    go_wp2_with fail
    refine t2.mono ?_
    rintro e w13 ⟨bt, ct, rfl, tt, hb13, _⟩
    have T13 := H12.out.2.below hb13
    have hb1D := H12.out.1.trans (hb13.mono H12.out.1.size)
    have hsz3 := hb13.size
    have hps : lt yl yc p q = false := HPQ.out.1.2
    have t3 := text_ok a n c ls 0 p q yl yc w13 (SrcV.below HS1.out hb1D) hs (vld_char HPQ.out.1.1 HZP.out hps) (by omega)
    obtain ⟨U, hU⟩ : ∃ U, U = txt ls 0 p q yl yc := ⟨_, rfl⟩
    rw [← hU] at t3
    have HU := Lib.hid hU
    have H13 := Lib.hid (And.intro hb1D (SrcV.below HSS.out hb13))
    have HTT := Lib.hid tt
    clear i0 i1 i2 i3 i4 i5
    obtain ⟨⟨i0, i1⟩, ⟨i2, i3⟩, i4, i5⟩ := T13.cells
    clear t2 tt hb13 T13 hb1D hU H12 HSS hps
    go_wp2_with fail
    refine t3.mono ?_
    rintro e w14 ⟨bu, cu, rfl, uu, hb14, _⟩
    have hb1E := H13.out.1.trans (hb14.mono H13.out.1.size)
    have sE := SrcV.below H13.out.2 hb14
    have tE := SrcV.below HTT.out hb14
    have H14 := Lib.hid (And.intro hb1E (And.intro sE (And.intro tE uu)))
    clear t3 uu hb14 hb1E i0 i1 i2 i3 i4 i5 H13 HTT
    have hkl := sE.2.2.1
    have hmll := tE.2.2.1
    obtain ⟨sb, so, rfl, hsc, hsk, _⟩ := Ss.read sE k (by have := HS.out.2; omega)
    obtain ⟨tb, to, rfl, htc, htk, _⟩ := Ss.read tE 0 (by have := HT.out.2; omega)
    obtain ⟨g1, hg1⟩ : ∃ g1, g1 = S[k]'(by have := HS.out.2; omega) := ⟨_, rfl⟩
    obtain ⟨g2, hg2⟩ : ∃ g2, g2 = T[0]'(by have := HT.out.2; omega) := ⟨_, rfl⟩
    rw [← hg1] at hsc
    rw [← hg2] at htc
    have hgz1 : g1.size ≤ 1240 := by
      have := txt_size ls 0 p q r s 1240 (fun st hst => by have := tz_mem ls st hst; omega) g1 (by rw [← HS.out.1, hg1]; exact List.getElem_mem _)
      exact this
    have hgz2 : g2.size ≤ 1240 := by
      have := txt_size ls 0 r s yl yc 1240 (fun st hst => by have := tz_mem ls st hst; omega) g2 (by rw [← HT.out.1, hg2]; exact List.getElem_mem _)
      exact this
    have HG := Lib.hid (And.intro (List.getElem?_eq_getElem (l := S) (i := k) (by have := HS.out.2; omega)) (List.getElem?_eq_getElem (l := T) (i := 0) (by have := HT.out.2; omega)))
    rw [← hg1, ← hg2] at HG
    rw [Nat.add_zero] at htc
    clear hg1 hg2 sE tE
    have hkn : k ≤ 1000000 := by have h1 := HS.out.2; rw [HS.out.1, txt_length] at h1; have := HPQ.out.2.1.1.2.1; have := HPQ.out.1.1.1; omega
    have hmn : m ≤ 1000000 := by have h1 := HT.out.2; rw [HT.out.1, txt_length] at h1; have := HZP.out.2.1; have := HPQ.out.2.1.1.1; omega
    have hw1 : IntKind.i64.wrap (((k + 1 : Nat) : Int) - 1) = (k : Int) := by rw [IntKind.wrap_i64]; omega
    have hw2 : IntKind.i64.wrap ((k : Int) + 1 - 1) = (k : Int) := by rw [IntKind.wrap_i64]; omega
    have hd1 : ((k : Int) + 1 == 0) = false := by rw [beq_eq_false_iff_ne]; omega
    have hd2 : ((m : Int) + 1 == 0) = false := by rw [beq_eq_false_iff_ne]; omega
    obtain ⟨i0, hi0, hz0, hz1', hz2'⟩ := info_parts infoS
    have hmx : Try.prog.follows .mixedOrders = true := by kernel_rfl
    obtain ⟨SP, hSP⟩ : ∃ SP : World → Prop, SP = fun W => W.cell? ⟨sb, so + k, none⟩ = some (.string g1) ∧ W.cell? ⟨tb, to, none⟩ = some (.string g2) := ⟨_, rfl⟩
    have hSI : ∀ W, SP W → W.cell? ⟨sb, so + k, none⟩ = some (.string g1) ∧ W.cell? ⟨tb, to, none⟩ = some (.string g2) := fun W hW => by rw [hSP] at hW; exact hW
    have hSB : ∀ W, Below w14.heap.size w14 W → SP W := fun W hW => by rw [hSP]; exact ⟨cell_later hW hsc, cell_later hW htc⟩
    have HSI := Lib.hid hSI
    have HSB := Lib.hid hSB
    have hgg : ¬ (9223372036854775807 : Int) < g1.size + g2.size := by omega
    have hgg' : ¬ 9223372036854775807 < g1.size + g2.size := by omega
    have hks : k ≤ cs := by omega
    have hk1 : k < k + 1 := by omega
    clear hSP hSI hSB hsc htc hw1 hkl hmll
    go_wp2_with fail
    have hS0 : SP w14.drew := HSB.out _ (Below.refl _ w14).drew
    refine wp_region_held (S := SP) hmx ?_
    refine wpAnyH_take (i := 0) (v := .slice (some ⟨sb, so, none⟩) (k + 1) cs) rfl (by kernel_rfl) (by kernel_rfl) (by kernel_rfl) (fun _ _ _ h => h) (Or.inl ⟨by rfl, fun w' hw => by go_simp⟩) hS0 ?_
    simp only [Act.put]
    refine wpAnyH_take (i := 1) (v := .int .i64 k) rfl (by kernel_rfl) (by kernel_rfl) (by kernel_rfl) (fun _ _ _ h => h) (Or.inl ⟨by rfl, fun w' hw => by go_simp⟩) hS0 ?_
    simp only [Act.put]
    refine wpAnyH_take (i := 2) (v := .slice (some ⟨sb, so, none⟩) k cs) rfl (by kernel_rfl) (by kernel_rfl) (by kernel_rfl) (fun _ _ _ h => h) (Or.inl ⟨by rfl, fun w' hw => by go_simp⟩) hS0 ?_
    simp only [Act.put]
    refine wpAnyH_take (i := 4) (v := .slice (some ⟨sb, so, none⟩) (k + 1) cs) rfl (by kernel_rfl) (by kernel_rfl) (by kernel_rfl) (fun _ _ _ h => h) (Or.inl ⟨by rfl, fun w' hw => by go_simp⟩) hS0 ?_
    simp only [Act.put]
    refine wpAnyH_take (i := 5) (v := .int .i64 k) rfl (by kernel_rfl) (by kernel_rfl) (by kernel_rfl) (fun _ _ _ h => h) (Or.inl ⟨by rfl, fun w' hw => by go_simp⟩) hS0 ?_
    simp only [Act.put]
    refine wpAnyH_take (i := 6) (v := .pointer (some ⟨sb, so + k, none⟩)) rfl (by kernel_rfl) (by kernel_rfl) (by kernel_rfl) (fun _ _ _ h => h) (Or.inl ⟨by rfl, fun w' hw => by go_simp; intro hx; omega⟩) hS0 ?_
    simp only [Act.put]
    refine wpAnyH_take (i := 7) (v := .string g1) rfl (by kernel_rfl) (by kernel_rfl) (by kernel_rfl) (fun _ _ _ h => h) (Or.inl ⟨by rfl, fun w' hw => by obtain ⟨s0, s1⟩ := HSI.out w' hw; go_simp⟩) hS0 ?_
    simp only [Act.put]
    refine wpAnyH_take (i := 8) (v := .slice (some ⟨tb, to, none⟩) (m + 1) ct) rfl (by kernel_rfl) (by kernel_rfl) (by kernel_rfl) (fun _ _ _ h => h) (Or.inl ⟨by rfl, fun w' hw => by go_simp⟩) hS0 ?_
    simp only [Act.put]
    refine wpAnyH_take (i := 9) (v := .pointer (some ⟨tb, to, none⟩)) rfl (by kernel_rfl) (by kernel_rfl) (by kernel_rfl) (fun _ _ _ h => h) (Or.inl ⟨by rfl, fun w' hw => by go_simp⟩) hS0 ?_
    simp only [Act.put]
    refine wpAnyH_take (i := 10) (v := .string g2) rfl (by kernel_rfl) (by kernel_rfl) (by kernel_rfl) (fun _ _ _ h => h) (Or.inl ⟨by rfl, fun w' hw => by obtain ⟨s0, s1⟩ := HSI.out w' hw; go_simp⟩) hS0 ?_
    simp only [Act.put]
    refine wpAnyH_take (i := 11) (v := .string (g1 ++ g2)) rfl (by kernel_rfl) (by kernel_rfl) (by kernel_rfl) (fun _ _ _ h => h) (Or.inl ⟨by rfl, fun w' hw => by go_simp⟩) hS0 ?_
    simp only [Act.put]
    obtain ⟨L, hL⟩ : ∃ L, L = (S.map Value.string).take k := ⟨_, rfl⟩
    have HL := Lib.hid hL
    have hLl : L.length = k := by rw [hL, List.length_take, List.length_map, HS.out.2]; omega
    have HLl := Lib.hid hLl
    have hsl : SrcV w14.drew 1 (.slice (some ⟨sb, so, none⟩) k cs) k L := by
      rw [hL]
      have h1 := H14.out.2.1
      exact (SrcV.take h1 (by have := HS.out.2; omega)).drew
    have HSL := Lib.hid hsl
    clear hL hLl hsl
    have hbd : Below w14.heap.size w14 w14.drew := (Below.refl _ w14).drew
    have HBD := Lib.hid hbd
    clear hbd
    refine wpAnyH_ready (rs := [3, 12]) (by kernel_rfl) (by simp) ?_
    refine AllReadyH.cons rfl (fun K hK => ?fa2) (AllReadyH.cons rfl (fun K hK => ?fb2) AllReadyH.nil)
    case' fa2 =>
      refine step_append_srcv rfl (.const (.slice none 0 0)) (.tmp 83) 29 rfl w14.heap.size ES i0 (.string ⟨#[]⟩) 1 16 underS hi0 hz0 hz1' hz2' rfl (by decide) (.slice none 0 0) 0 [] (by simp [Act.eval]) (World.ownsRow_nil _ _ _ _) (.slice (some ⟨sb, so, none⟩) k cs) k L (by simp [Act.eval]) HSL.out (by simp only [maxLen]; omega) (by omega) (Nat.le_refl _) ?_
      intro ob oc wA hown hg hnr
      rw [Nat.zero_add] at hown
      rw [List.nil_append] at hown
      have hfA : Fr (fun _ => False) w14 wA := ((Fr.refl _ w14).drew).trans ((Fr.refl _ w14.drew).grown hg (by intro i hi; simp [Value.ownBlock] at hi))
      have hbA : Below w14.heap.size w14 wA := hfA.below (Nat.le_refl _) (by simp)
      have HA := Lib.hid (And.intro hown hbA)
      have hSA := HSB.out wA hbA
      clear hown hg hnr hfA hbA
      simp only [Nat.zero_add]
      refine hK.out _ _ hSA (fun _ => ?_)
      clear hK K
      try simp only [Act.put]
      refine wpAnyH_ready (rs := [12]) (by kernel_rfl) (by simp) ?_
      refine AllReadyH.cons rfl (fun K hK => ?_) AllReadyH.nil
      go_simp
      obtain ⟨NB, hNB⟩ : ∃ NB, NB = wA.heap.size := ⟨_, rfl⟩
      rw [← hNB]
      obtain ⟨W, hW⟩ : ∃ W, W = wA.alloc (.cells #[.string (g1 ++ g2)] ES) := ⟨_, rfl⟩
      rw [← hW]
      have hbW : Below w14.heap.size w14 W := by rw [hW]; exact HA.out.2.alloc HA.out.2.size _
      have HF := Lib.hid (show W.ownsRow w14.heap.size ES 1 (.slice ob k oc) k L ∧ SrcV W 1 (.slice (some ⟨NB, 0, none⟩) 1 1) 1 [.string (g1 ++ g2)] ∧ Below w14.heap.size w14 W from
        ⟨by rw [hW]; exact ownsRow_fr HA.out.1 ((Fr.refl (fun _ => False) wA).alloc _) (by simp), by rw [hW, hNB]; exact SrcV.lit wA #[.string (g1 ++ g2)] ES 1 rfl (by simp [Value.oneCell']) (by simp [maxLen]), hbW⟩)
      have hSW := HSB.out W hbW
      clear hNB hW hbW hSA HA
      refine hK.out _ _ hSW (fun _ => ?_)
      clear hK K
      try simp only [Act.put]
    case' fb2 =>
      go_simp
      obtain ⟨NB, hNB⟩ : ∃ NB, NB = w14.heap.size := ⟨_, rfl⟩
      rw [← hNB]
      obtain ⟨wA, hwA⟩ : ∃ wA, wA = (w14.alloc (.cells #[.string (g1 ++ g2)] ES)).drew := ⟨_, rfl⟩
      rw [← hwA]
      have hbA : Below w14.heap.size w14 wA := by rw [hwA]; exact ((Below.refl _ w14).alloc (Nat.le_refl _) _).drew
      have HA := Lib.hid (And.intro hwA hbA)
      have hSA := HSB.out wA hbA
      clear hbA hwA
      refine hK.out _ _ hSA (fun _ => ?_)
      clear hK K
      try simp only [Act.put]
      refine wpAnyH_ready (rs := [3]) (by kernel_rfl) (by simp) ?_
      refine AllReadyH.cons rfl (fun K hK => ?_) AllReadyH.nil
      refine step_append_srcv rfl (.const (.slice none 0 0)) (.tmp 83) 29 rfl w14.heap.size ES i0 (.string ⟨#[]⟩) 1 16 underS hi0 hz0 hz1' hz2' rfl (by decide) (.slice none 0 0) 0 [] (by simp [Act.eval]) (World.ownsRow_nil _ _ _ _) (.slice (some ⟨sb, so, none⟩) k cs) k L (by simp [Act.eval]) (SrcV.below HSL.out ⟨HA.out.2.os, HA.out.2.tape, HA.out.2.output, HA.out.2.size, HA.out.2.block⟩) (by simp only [maxLen]; omega) (by omega) HA.out.2.size ?_
      intro ob oc W hown hg hnr
      rw [Nat.zero_add] at hown
      rw [List.nil_append] at hown
      have hfA : Fr (fun _ => False) wA W := (Fr.refl _ wA).grown hg (by intro i hi; simp [Value.ownBlock] at hi)
      have hbW : Below w14.heap.size w14 W := HA.out.2.trans (hfA.below (B := w14.heap.size) HA.out.2.size (by simp))
      have HF := Lib.hid (show W.ownsRow w14.heap.size ES 1 (.slice ob k oc) k L ∧ SrcV W 1 (.slice (some ⟨NB, 0, none⟩) 1 1) 1 [.string (g1 ++ g2)] ∧ Below w14.heap.size w14 W from
        ⟨hown, by rw [hNB]; exact SrcV.fr (by rw [HA.out.1]; exact (SrcV.lit w14 #[.string (g1 ++ g2)] ES 1 rfl (by simp [Value.oneCell']) (by simp [maxLen])).drew) hfA (by simp), hbW⟩)
      have hSW := HSB.out W hbW
      clear hown hg hnr hfA hbW hSA HA hNB
      simp only [Nat.zero_add]
      refine hK.out _ _ hSW (fun _ => ?_)
      clear hK K
      try simp only [Act.put]
    all_goals
      have hzW := HF.out.2.2.size
      refine wpAnyH_ready (rs := [13]) (by kernel_rfl) (by simp) ?_
      refine AllReadyH.cons rfl (fun K hK => ?_) AllReadyH.nil
      refine step_append_srcv rfl (.tmp 84) (.tmp 93) 29 rfl w14.heap.size ES i0 (.string ⟨#[]⟩) 1 16 underS hi0 hz0 hz1' hz2' rfl (by decide) (.slice ob k oc) k L (by simp [Act.eval]) HF.out.1 (.slice (some ⟨NB, 0, none⟩) 1 1) 1 [.string (g1 ++ g2)] (by simp [Act.eval]) HF.out.2.1 (by simp only [maxLen]; omega) (by omega) hzW ?_
      intro ob2 oc2 W2 hown2 hg2 hnr2
      have hb2 : Below w14.heap.size w14 W2 := HF.out.2.2.trans (((Fr.refl (fun i => (Value.slice ob k oc).ownBlock = some i) W).grown hg2 (fun i e _ => e)).below (B := w14.heap.size) hzW (fun i hi => (HF.out.1.lt i hi).1))
      have H2 := Lib.hid (And.intro hown2 hb2)
      have hS2 := HSB.out W2 hb2
      clear hown2 hg2 hnr2 hb2 hzW hSW HF
      refine hK.out _ _ hS2 (fun _ => ?_)
      clear hK K
      try simp only [Act.put]
      refine wpAnyH_ready (rs := [14]) (by kernel_rfl) (by simp) ?_
      refine AllReadyH.cons rfl (fun K hK => ?_) AllReadyH.nil
      go_simp
      refine hK.out _ _ hS2 (fun _ => ?_)
      clear hK K
      try simp only [Act.put]
      refine wpAnyH_done (by kernel_rfl) ?_ _
      have hzW2 := H2.out.2.size
      have htW := SrcV.below H14.out.2.2.1 H2.out.2
      obtain ⟨A, hA, hdr⟩ := SrcV.drop htW (k := 1) (by omega)
      have hmm1 : m + 1 - 1 = m := by omega
      rw [hmm1] at hdr
      have HDR := Lib.hid hdr
      have hm1c : 1 ≤ m + 1 := by omega
      have hm1d : m + 1 ≤ ct := by omega
      clear htW hdr
      go_wp2_with (at_builtin; go_must (refine append_srcv _ rfl (.tmp 95) (.tmp 97) 29 rfl w14.heap.size ES i0 (.string ⟨#[]⟩) 1 16 underS hi0 hz0 hz1' hz2' rfl (by decide) (.slice ob2 (k + 1) oc2) (k + 1) (L ++ [.string (g1 ++ g2)]) rfl H2.out.1 (.slice (some A) m (ct - 1)) m ((T.map Value.string).drop 1) rfl HDR.out (by simp only [maxLen]; omega) (by omega) hzW2 ?_); intro ob3 oc3 W3 hown3 hg3 hnr3; have hb3 : Below w14.heap.size w14 W3 := H2.out.2.trans (((Fr.refl (fun i => (Value.slice ob2 (k + 1) oc2).ownBlock = some i) W2).grown hg3 (fun i e _ => e)).below (B := w14.heap.size) hzW2 (fun i hi => (H2.out.1.lt i hi).1)); have H3 := Lib.hid (And.intro hown3 hb3); clear hown3 hg3 hnr3 hb3)
      have hLL : (L ++ [Value.string (g1 ++ g2)]) ++ (T.map Value.string).drop 1 = (S.take k ++ [g1 ++ g2] ++ T.drop 1).map Value.string := by rw [HL.out, List.map_append, List.map_append, List.map_take, List.map_drop]; rfl
      have hs3 : Ss W3 ob3 (k + 1 + m) oc3 (S.take k ++ [g1 ++ g2] ++ T.drop 1) := by
        have h1 := H3.out.1
        rw [hLL] at h1
        exact SrcV.ofOwn h1 (one_cells _)
      have hsu : Ss W3 bu U.length cu U := SrcV.below H14.out.2.2.2 H3.out.2
      have hj : S.take k ++ [g1 ++ g2] ++ T.drop 1 = U := by
        rw [HU.out]
        exact parts_join ls p q r s yl yc HPQ.out.1.1 HPQ.out.2.1.1 HZP.out HPQ.out.2.2 HPQ.out.2.1.2 S T HS.out.1 HT.out.1 k HS.out.2 g1 g2 HG.out.1 HG.out.2
      have hst := strings_any ob3 (k + 1 + m) oc3 _ bu U.length cu U W3 hs3 hsu
      rw [decide_eq_true hj] at hst
      have hbe : Below w.heap.size w W3 := HB1.out.trans ((H14.out.1.trans (H3.out.2.mono H14.out.1.size)).mono HB1.out.size)
      have HBE := Lib.hid hbe
      clear hLL hs3 hsu hj hbe
      refine hst.mono ?_
      rintro e w' ⟨rfl, j, rfl⟩
      clear hst
      go_wp2
      go_ret
      exact ⟨rfl, HBE.out.trans ⟨rfl, rfl, rfl, Nat.le_refl _, fun _ _ => rfl⟩⟩

end Go.Proofs.Ytangoodeoieeiaa.SParts
