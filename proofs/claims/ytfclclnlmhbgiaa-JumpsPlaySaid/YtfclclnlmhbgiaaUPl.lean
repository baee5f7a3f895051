/-
  The law JumpsPlay, walked.
-/
import Derived.Test.YtfclclnlmhbgiaaUbo
import Derived.Test.YtfclclnlmhbgiaaUActs
import Derived.Deep.CutRange
import Derived.Deep.CutBlock
set_option linter.unusedVariables false
set_option linter.unusedSimpArgs false
set_option maxRecDepth 100000
namespace Go.Proofs.Ytfclclnlmhbgiaa.JPl
open Go Go.RowKit Go.Proofs.Ytfclclnlmhbgiaa.Vk Go.Proofs.Ytfclclnlmhbgiaa.Str Go.Proofs.Ytfclclnlmhbgiaa.Ln Go.Proofs.Ytfclclnlmhbgiaa.Cl Go.Proofs.Ytfclclnlmhbgiaa.Ml Go.Proofs.Ytfclclnlmhbgiaa.Mk Go.Proofs.Ytfclclnlmhbgiaa.Jp Go.Proofs.Ytfclclnlmhbgiaa.JActs
attribute [local go_sem] Oper.semAt_some

theorem cell_one {w : World} {p : Addr} {v : Value} (h : w.cell? p = some v) (O : Obj) : (w.alloc O).cell? p = some v :=
  cell_later ((Below.refl _ w).alloc (Nat.le_refl _) O) h
theorem below_on {a b c : World} (h : Below a.heap.size a b) (k : Below b.heap.size b c) : Below a.heap.size a c := h.trans (k.mono h.size)
theorem u8_of {l : Int} (h : (Lit.int .u8 l).wf = true) : 0 ≤ l ∧ l ≤ 255 := by simpa [Lit.wf, show IntKind.u8.min = 0 from rfl, show IntKind.u8.max = 255 from rfl] using h

set_option maxHeartbeats 4000000 in
theorem walk (sa : Option Addr) (N cp : Nat) (ls : List ActD) (w : World) (hm : Script w sa N cp ls) :
    Calls Try.prog 3 #[.slice sa N cp] w fun e w' => e = .returned (.bool true) ∧ Below w.heap.size w w' := by
  have hk := known_any w
  have HMS := Lib.hid hm
  have hN63 : N ≤ 9223372036854775807 := Nat.le_trans hm.1 hm.2.1
  clear hm
  go_enter Try.func3, Try.ntmps3
  go_wp2_with fail
  refine hk.mono ?_
  rintro e w1 ⟨rfl, hb1⟩
  have HB := Lib.hid hb1
  clear hk hb1
  by_cases h60 : 60 < N
  · go_wp2
    go_ret
    exact ⟨rfl, HB.out⟩
  go_wp2_with fail
  refine (new_e _).mono ?_
  rintro e w2 ⟨l, rfl, hl2, hb2, hlw⟩
  have HB2 := Lib.hid (And.intro (below_on HB.out hb2) (And.intro HB.out.size hlw))
  have HL2 := Lib.hid hl2
  clear hb2 hl2 hlw
  go_wp2_with fail
  obtain ⟨w3, hw3⟩ : ∃ w3, w3 = w2.alloc (.cells #[.slice none 0 0, .int .i64 0] JT) := ⟨_, rfl⟩
  have hb3 : Below w2.heap.size w2 w3 := by rw [hw3]; exact (Below.refl _ _).alloc (Nat.le_refl _) _
  have hrf : Rf w3 w2.heap.size [] 0 := by rw [hw3]; exact Rf.new w2
  show Code.wp _ _ _ _ (w2.alloc (.cells #[.slice none 0 0, .int .i64 0] JT))
  rw [← hw3]
  obtain ⟨j, hj⟩ : ∃ j, j = w2.heap.size := ⟨_, rfl⟩
  have HBO : Hid (Bo w l j [] 0 [] 0 w3) := ⟨HL2.out.below hb3, by rw [hj]; exact hrf, by have := HL2.out.lt; omega, below_on HB2.out.1 hb3, by have := HB2.out.2; omega, by rw [hj]; exact HB2.out.1.size⟩
  rw [← hj] at ⊢
  clear hw3 hb3 hrf hj
  go_loopw [5] (fun i wr => ∃ (k : Nat) (ps : List P2) (at' : Nat), k ≤ N ∧ i = .int .i64 k ∧ Hid (Rel w l j k ps at' wr)) (fun i _ => N - (RowKit.intOf i).toNat)
  case atStart => exact ⟨0, [], 0, Nat.zero_le _, rfl, HBO.out, by decide, by decide, (fun _ h => by cases h)⟩
  case round =>
    obtain ⟨k, ps, at', hkN, rfl, HW⟩ := hrel
    by_cases hk : k < N
    rotate_left
    · obtain rfl : k = N := by omega
      go_wp2
      go_ret
      exact ⟨rfl, HW.out.bo.bel⟩
    have hkl : k < ls.length := by have := HMS.out.2.2.1; omega
    obtain ⟨hfit, sb, so, hsa, hcs⟩ := HMS.out.2.2.2 k _ (List.getElem?_eq_getElem hkl)
    subst hsa
    have hcap := HMS.out.1
    generalize ls[k] = x at hfit hcs
    obtain ⟨what, l0, y, m, a, o, n⟩ := x
    have hF := Fr.ofBelow HW.out.bo.bel (fun _ => False)
    have f0 : wr.cell? ⟨sb, so + k * 7, none⟩ = some (.int .u8 what) := hF.cell (hcs 0 _ rfl) (by simp)
    have f1 : wr.cell? ⟨sb, so + k * 7 + 1, none⟩ = some (.int .i64 l0) := hF.cell (hcs 1 _ rfl) (by simp)
    have f2 : wr.cell? ⟨sb, so + k * 7 + 2, none⟩ = some (.int .i64 y) := hF.cell (hcs 2 _ rfl) (by simp)
    have f3 : wr.cell? ⟨sb, so + k * 7 + 3, none⟩ = some (.int .i64 m) := hF.cell (hcs 3 _ rfl) (by simp)
    have f4 : wr.cell? ⟨sb, so + k * 7 + 4, none⟩ = some (.int .i64 a) := hF.cell (hcs 4 _ rfl) (by simp)
    have f5 : wr.cell? ⟨sb, so + k * 7 + 5, none⟩ = some (.int .i64 o) := hF.cell (hcs 5 _ rfl) (by simp)
    have f6 : wr.cell? ⟨sb, so + k * 7 + 6, none⟩ = some (.int .i64 n) := hF.cell (hcs 6 _ rfl) (by simp)
    have HFIT : Hid (0 ≤ what ∧ what ≤ 255) := u8_of hfit
    clear hfit hcs hF
    obtain ⟨w0, hw0⟩ : ∃ w0, w0 = wr.alloc (.cells #[.int .u8 what, .int .i64 l0, .int .i64 y, .int .i64 m, .int .i64 a, .int .i64 o, .int .i64 n] 33) := ⟨_, rfl⟩
    have hb0 : Below wr.heap.size wr w0 := by rw [hw0]; exact (Below.refl _ _).alloc (Nat.le_refl _) _
    have hrow : w0.heap[wr.heap.size]? = some (.cells #[.int .u8 what, .int .i64 l0, .int .i64 y, .int .i64 m, .int .i64 a, .int .i64 o, .int .i64 n] 33 (0, 0)) := by rw [hw0]; exact heap_alloc_new wr _
    obtain ⟨w5, hw5⟩ : ∃ w5, w5 = w0.alloc (.cells #[.int .i64 (l0.tmod 40), .int .i64 y] 31) := ⟨_, rfl⟩
    have hb5 : Below w0.heap.size w0 w5 := by rw [hw5]; exact (Below.refl _ _).alloc (Nat.le_refl _) _
    have s0 : w0.heap.size = wr.heap.size + 1 := by rw [hw0]; simp
    have hp5 : PosAt w5 (wr.heap.size + 1) (l0.tmod 40) y := by
      have h := PosAt.new w0 (l0.tmod 40) y
      rw [s0] at h
      rw [hw5]; exact h
    have hrow5 := (hb5.block _ (Array.getElem?_eq_some_iff.1 hrow).1).trans hrow
    have HW5 : Hid (Rel w l j k ps at' w5) := HW.out.below (below_on hb0 hb5)
    have HLJ := Lib.hid (And.intro HW.out.bo.ls.lt (Rf.lt HW.out.bo.rf))
    have t1 := Int.tmod_lt_of_pos l0 (b := 40) (by omega)
    have t2 := Int.lt_tmod_of_pos l0 (b := 40) (by omega)
    obtain ⟨X, hX⟩ : ∃ X, X = l0.tmod 40 := ⟨_, rfl⟩
    rw [← hX] at t1 t2 hp5 hw5
    have HXB := Lib.hid (And.intro t1 t2)
    have HROW := Lib.hid hrow5
    have HPOS := Lib.hid hp5
    have HS := Lib.hid (And.intro hb0 (And.intro hb5 hrow))
    clear t1 t2 hrow5 hp5 hb0 hb5 hrow HW
    go_upto_if 49 with fail
    rw [← hw0, ← hX, ← hw5]
    clear hw0 hw5 hX f0 f1 f2 f3 f4 f5 f6
    obtain ⟨gx, hgx⟩ : ∃ gx, gx = wr.heap.size := ⟨_, rfl⟩
    rw [← hgx] at HROW HPOS HLJ ⊢
    clear s0 HS hgx
    go_cut [8] from 49 to 51 (fun s8 wx => ∃ v : Int, s8 = .int .i64 v ∧ w5 = wx)
    case first =>
      by_cases hq : m.tmod 3 = 0
      · have hb : (m.tmod 3 != 0) = false := by rw [hq]; rfl
        have HQ := Lib.hid hq
        clear hq
        go_wp2
        go_meet
        case rel => exact ⟨m, rfl, rfl⟩
      · have hb : (m.tmod 3 != 0) = true := by simpa using hq
        have HQ := Lib.hid hq
        clear hq
        go_wp2
        go_meet
        case rel => exact ⟨_, rfl, rfl⟩
    case rest =>
      obtain ⟨v, rfl, rfl⟩ := hcut
      have x0 : w5.cell? ⟨gx, 0, none⟩ = some (.int .u8 what) := (cell_of_row w5 _ 0 _ _ _ HROW.out).trans rfl
      have p0 := HPOS.out.c0
      have p1 := HPOS.out.c1
      have t1 := Int.tmod_lt_of_pos what (b := 5) (by omega)
      have t2 := Int.tmod_nonneg 5 HFIT.out.1
      obtain ⟨T, hT⟩ : ∃ T, T = what.tmod 5 := ⟨_, rfl⟩
      rw [← hT] at t1 t2
      go_upto_block 2 with fail
      rw [← hT]
      clear hT x0
      have hlx := HLJ.out.1
      have hjx := HLJ.out.2
      go_cut [54] from 55 to 131 (fun s54 wx => s54 = .int .u8 T ∧ ∃ (ps' : List P2) (a' : Nat), Hid (Rel w l j (k + 1) ps' a' wx))
      case first =>
        obtain rfl | rfl | rfl | rfl | rfl : T = 0 ∨ T = 1 ∨ T = 2 ∨ T = 3 ∨ T = 4 := by omega
        · go_wp2_with fail
          refine (HW5.out.bo.ls.push X y HW5.out.le HW5.out.at').mono ?_
          rintro e A1 ⟨rfl, h1, f1⟩
          have bo1 := HW5.out.bo.frl h1 f1
          have p0 := f1.cell p0 (by simp only; omega)
          have p1 := f1.cell p1 (by simp only; omega)
          have hr := Rf.push bo1.rf X y HW5.out.le
          have HBO1 := Lib.hid bo1
          clear h1 f1 bo1
          go_wp2_with fail
          refine hr.mono ?_
          rintro e A2 ⟨rfl, h2, f2⟩
          have HE : Hid (Rel w l j (k + 1) (pshL ps (X, y)) (pshL ps (X, y)).length A2) := ⟨HBO1.out.frj h2 f2, pshL_le HW5.out.le, Nat.le_refl _, (HW5.out.bnd.push (by have := HXB.out; push_cast; omega)).mono (by push_cast; omega)⟩
          clear hr h2 f2
          go_wp2
          go_meet
          case rel => exact ⟨rfl, _, _, HE⟩
        · go_wp2_with fail
          refine (HW5.out.bo.ls.push X y HW5.out.le HW5.out.at').mono ?_
          rintro e A1 ⟨rfl, h1, f1⟩
          have bo1 := HW5.out.bo.frl h1 f1
          have p0 := f1.cell p0 (by simp only; omega)
          have p1 := f1.cell p1 (by simp only; omega)
          have hr := Rf.push bo1.rf X y HW5.out.le
          have HBO1 := Lib.hid bo1
          clear h1 f1 bo1
          go_wp2_with fail
          refine hr.mono ?_
          rintro e A2 ⟨rfl, h2, f2⟩
          have HE : Hid (Rel w l j (k + 1) (pshL ps (X, y)) (pshL ps (X, y)).length A2) := ⟨HBO1.out.frj h2 f2, pshL_le HW5.out.le, Nat.le_refl _, (HW5.out.bnd.push (by have := HXB.out; push_cast; omega)).mono (by push_cast; omega)⟩
          clear hr h2 f2
          go_wp2
          go_meet
          case rel => exact ⟨rfl, _, _, HE⟩
        · go_wp2_with fail
          obtain ⟨x', y', o', hans⟩ := ans_form (olOk at' v) (olQ ps at' (X, y) v)
          have hp := HW5.out.bo.ls.older X y v HW5.out.le HW5.out.at'
          have hr := fun W (h : Rf W j ps at') => Rf.older h X y v HW5.out.le HW5.out.at'
          rw [hans] at hp
          simp only [hans] at hr
          have HR := Lib.hid hr
          clear hr hans
          refine hp.mono ?_
          rintro e A1 ⟨rfl, h1, f1⟩
          have bo1 := HW5.out.bo.frl h1 f1
          have p0 := f1.cell p0 (by simp only; omega)
          have p1 := f1.cell p1 (by simp only; omega)
          obtain ⟨A2, hA2⟩ : ∃ v, v = A1.alloc (.cells #[.int .i64 x', .int .i64 y'] 31) := ⟨_, rfl⟩
          have hb2 : Below A1.heap.size A1 A2 := by rw [hA2]; exact (Below.refl _ _).alloc (Nat.le_refl _) _
          have q2 : PosAt A2 A1.heap.size x' y' := by rw [hA2]; exact PosAt.new _ _ _
          have bo2 := bo1.below hb2
          have hpx := World.block_lt_of_cell? A1 _ p0
          simp only at hpx
          have hpy : ¬ (gx + 1 = A1.heap.size) := by omega
          obtain ⟨ga, hga⟩ : ∃ g, g = A1.heap.size := ⟨_, rfl⟩
          rw [← hga] at q2
          have hjga : j < ga := by have := Rf.lt bo1.rf; omega
          have HBO2 := Lib.hid bo2
          have HQ2 := Lib.hid q2
          clear hp h1 f1 bo1 hb2 q2 bo2
          go_wp2_with fail
          rw [← hA2, ← hga]
          clear hA2 hga
          refine (HR.out _ HBO2.out.rf).mono ?_
          rintro e A3 ⟨rfl, h3, f3⟩
          have bo3 := HBO2.out.frj h3 f3
          have q3 := HQ2.out.fr f3 (by omega)
          obtain ⟨A4, hA4⟩ : ∃ v, v = A3.alloc (.cells #[.int .i64 x', .int .i64 y'] 31) := ⟨_, rfl⟩
          have hb4 : Below A3.heap.size A3 A4 := by rw [hA4]; exact (Below.refl _ _).alloc (Nat.le_refl _) _
          have q4 := q3.below hb4 q3.lt
          have HE : Hid (Rel w l j (k + 1) (if olOk at' v then olL ps at' (X, y) else ps) (if olOk at' v then olI ps at' (X, y) v else at') A4) := ⟨bo3.below hb4, olr_le HW5.out.le, olr_at HW5.out.at', (olr_bnd HW5.out.bnd (by have := HXB.out; push_cast; omega)).mono (by push_cast; omega)⟩
          have q4' : PosAt A4 A3.heap.size x' y' := by rw [hA4]; exact PosAt.new _ _ _
          have z0 := q3.c0
          have z1 := q3.c1
          have hne := neq_pos x' y' x' y' A4
          simp only [decide_true, Bool.and_self, Bool.not_true] at hne
          have hne2 : (o' != o') = false := by simp
          have zlt := q3.lt
          have z0 := q4.c0
          have z1 := q4.c1
          have z2 := q4'.c0
          have z3 := q4'.c1
          clear h3 f3 bo3 q3 hb4 q4 q4' p0 p1
          rw [hA4] at hne z0 z1 z2 z3
          go_wp2
          rw [← hA4]
          go_meet
          case rel => exact ⟨rfl, _, _, HE⟩
        · go_wp2_with fail
          obtain ⟨x', y', o', hans⟩ := ans_form (nwOk ps at' v) (nwQ ps at' v)
          have hp := HW5.out.bo.ls.newer v HW5.out.le HW5.out.at'
          have hr := fun W (h : Rf W j ps at') => Rf.newer h v HW5.out.le HW5.out.at'
          rw [hans] at hp
          simp only [hans] at hr
          have HR := Lib.hid hr
          clear hr hans
          refine hp.mono ?_
          rintro e A1 ⟨rfl, h1, f1⟩
          have bo1 := HW5.out.bo.frl h1 f1
          have p0 := f1.cell p0 (by simp only; omega)
          have p1 := f1.cell p1 (by simp only; omega)
          obtain ⟨A2, hA2⟩ : ∃ v, v = A1.alloc (.cells #[.int .i64 x', .int .i64 y'] 31) := ⟨_, rfl⟩
          have hb2 : Below A1.heap.size A1 A2 := by rw [hA2]; exact (Below.refl _ _).alloc (Nat.le_refl _) _
          have q2 : PosAt A2 A1.heap.size x' y' := by rw [hA2]; exact PosAt.new _ _ _
          have bo2 := bo1.below hb2
          have hpx := World.block_lt_of_cell? A1 _ p0
          simp only at hpx
          have hpy : ¬ (gx + 1 = A1.heap.size) := by omega
          obtain ⟨ga, hga⟩ : ∃ g, g = A1.heap.size := ⟨_, rfl⟩
          rw [← hga] at q2
          have hjga : j < ga := by have := Rf.lt bo1.rf; omega
          have HBO2 := Lib.hid bo2
          have HQ2 := Lib.hid q2
          clear hp h1 f1 bo1 hb2 q2 bo2
          go_wp2_with fail
          rw [← hA2, ← hga]
          clear hA2 hga
          refine (HR.out _ HBO2.out.rf).mono ?_
          rintro e A3 ⟨rfl, h3, f3⟩
          have bo3 := HBO2.out.frj h3 f3
          have q3 := HQ2.out.fr f3 (by omega)
          obtain ⟨A4, hA4⟩ : ∃ v, v = A3.alloc (.cells #[.int .i64 x', .int .i64 y'] 31) := ⟨_, rfl⟩
          have hb4 : Below A3.heap.size A3 A4 := by rw [hA4]; exact (Below.refl _ _).alloc (Nat.le_refl _) _
          have q4 := q3.below hb4 q3.lt
          have HE : Hid (Rel w l j (k + 1) (ps) (if nwOk ps at' v then at' + v.toNat else at') A4) := ⟨bo3.below hb4, HW5.out.le, nwr_at HW5.out.at', HW5.out.bnd.mono (by push_cast; omega)⟩
          have q4' : PosAt A4 A3.heap.size x' y' := by rw [hA4]; exact PosAt.new _ _ _
          have z0 := q3.c0
          have z1 := q3.c1
          have hne := neq_pos x' y' x' y' A4
          simp only [decide_true, Bool.and_self, Bool.not_true] at hne
          have hne2 : (o' != o') = false := by simp
          have zlt := q3.lt
          have z0 := q4.c0
          have z1 := q4.c1
          have z2 := q4'.c0
          have z3 := q4'.c1
          clear h3 f3 bo3 q3 hb4 q4 q4' p0 p1
          rw [hA4] at hne z0 z1 z2 z3
          go_wp2
          rw [← hA4]
          go_meet
          case rel => exact ⟨rfl, _, _, HE⟩
        · have t1 := Int.tmod_lt_of_pos o (b := 6) (by omega)
          have t2 := Int.lt_tmod_of_pos o (b := 6) (by omega)
          have t3 := Int.tmod_lt_of_pos n (b := 6) (by omega)
          have t4 := Int.lt_tmod_of_pos n (b := 6) (by omega)
          have HT := Lib.hid (And.intro t1 (And.intro t2 (And.intro t3 t4)))
          have hbd : BndP 4611686018427387904 ps := HW5.out.bnd.mono (by omega)
          have hp := HW5.out.bo.ls.adj (a.tmod 30) (o.tmod 6) (n.tmod 6) HW5.out.le HW5.out.at' hbd
          have hr := fun W (h : Rf W j ps at') => Rf.adj h (a.tmod 30) (o.tmod 6) (n.tmod 6) HW5.out.le HW5.out.at' hbd
          have HR := Lib.hid hr
          have x4 : w5.cell? ⟨gx, 4, none⟩ = some (.int .i64 a) := (cell_of_row w5 _ 4 _ _ _ HROW.out).trans rfl
          have x5 : w5.cell? ⟨gx, 5, none⟩ = some (.int .i64 o) := (cell_of_row w5 _ 5 _ _ _ HROW.out).trans rfl
          have x6 : w5.cell? ⟨gx, 6, none⟩ = some (.int .i64 n) := (cell_of_row w5 _ 6 _ _ _ HROW.out).trans rfl
          clear t1 t2 t3 t4 hbd hr p0 p1
          go_wp2_with fail
          refine hp.mono ?_
          rintro e A1 ⟨rfl, h1, f1⟩
          have bo1 := HW5.out.bo.frl h1 f1
          have x4 := f1.cell x4 (by simp only; omega)
          have x5 := f1.cell x5 (by simp only; omega)
          have x6 := f1.cell x6 (by simp only; omega)
          have HBO1 := Lib.hid bo1
          clear h1 f1 bo1 hp
          go_wp2_with fail
          refine (HR.out _ HBO1.out.rf).mono ?_
          rintro e A2 ⟨rfl, h2, f2⟩
          have HE : Hid (Rel w l j (k + 1) (adjL ps (a.tmod 30) (o.tmod 6) (n.tmod 6)) (adjN ps at' (a.tmod 30) (o.tmod 6) (n.tmod 6)) A2) := ⟨HBO1.out.frj h2 f2, adjL_le _ _ _ HW5.out.le, adjN_le _ _ _ _ _, (HW5.out.bnd.adj ⟨HT.out.2.1, HT.out.1, HT.out.2.2.2, HT.out.2.2.1⟩).mono (by push_cast; omega)⟩
          clear h2 f2
          go_wp2
          go_meet
          case rel => exact ⟨rfl, _, _, HE⟩
      case rest =>
        obtain ⟨rfl, ps', a', HW6⟩ := hcut
        have hall := HW6.out.bo.ls.all HW6.out.le
        go_wp2_with fail
        refine hall.mono ?_
        rintro e A1 ⟨b1, c1, rfl, hs1, hb1⟩
        have HW7 := Lib.hid (HW6.out.below hb1)
        obtain ⟨b2, c2, r1, r2, r3⟩ := HW7.out.bo.rf
        have d0 : A1.cell? ⟨j, 0, none⟩ = some (.slice b2 ps'.length c2) := (cell_of_row A1 _ 0 _ _ _ r1).trans (by simp)
        have d1 : A1.cell? ⟨j, 1, none⟩ = some (.int .i64 a') := (cell_of_row A1 _ 1 _ _ _ r1).trans (by simp)
        have hpl := places_any b1 ps'.length c1 ps' b2 ps'.length c2 ps' A1 hs1 rfl r2 rfl (by have := HW6.out.le; omega) (by have := HW6.out.le; omega)
        simp only [decide_true] at hpl
        have hle := HW6.out.le
        have hne : ((a' : Int) != (a' : Int)) = false := by simp
        obtain ⟨M, hM⟩ : ∃ M, M = ps'.length := ⟨_, rfl⟩
        rw [← hM] at hpl d0 hle ⊢
        have hg : decide ((16 : Int) < (M : Int)) = false := by simp; omega
        have HP := Lib.hid hpl
        clear hall hs1 hb1 r1 r2 r3 hpl hM
        go_wp2_with fail
        refine HP.out.mono ?_
        rintro e A2 ⟨rfl, hb2⟩
        have d1 := cell_later hb2 d1
        have HW8 := Lib.hid (HW7.out.below hb2)
        clear hb2 HP
        go_wp2
        go_roundw
        case rel => exact ⟨k + 1, ps', a', by omega, by go_num, HW8⟩
        case measure => simp [RowKit.intOf]; omega

end Go.Proofs.Ytfclclnlmhbgiaa.JPl
