/-
  Package jumps: Older, Newer.
-/
import Derived.Test.YtfclclnlmhbgiaaUs
set_option linter.unusedVariables false
set_option linter.unusedSimpArgs false
set_option maxRecDepth 100000
namespace Go.Proofs.Ytfclclnlmhbgiaa.Jp
open Go Go.RowKit Go.Proofs.Ytfclclnlmhbgiaa.Vk Go.Proofs.Ytfclclnlmhbgiaa.Str Go.Proofs.Ytfclclnlmhbgiaa.Ln Go.Proofs.Ytfclclnlmhbgiaa.Cl Go.Proofs.Ytfclclnlmhbgiaa.Ml Go.Proofs.Ytfclclnlmhbgiaa.Mk Go.Shelf
attribute [local go_sem] Oper.semAt_some

theorem fr_put {g i : Nat} {w W : World} {v : Value} (h : Fr (fun k => k = g) w W) : Fr (fun k => k = g) w (W.setCell ⟨g, i, none⟩ v) := h.setCell (p := ⟨g, i, none⟩) (fun _ => rfl) v
/-- The list at l, wherever its vec lies. -/
def LstE (w : World) (l : Nat) (ps : List P2) (at' : Nat) : Prop := ∃ B p r, Lst w B l p r ps at'
theorem LstE.fr {w w' : World} {l : Nat} {ps : List P2} {at' : Nat} (h : LstE w l ps at') {j : Nat} (hf : Fr (fun k => k = j) w w') (hl : l ≠ j) {cs : Array Value} {t : TypeId} (hj : w.heap[j]? = some (.cells cs t (0, 0))) (h1 : t ≠ VT) (h2 : t ≠ VE) : LstE w' l ps at' := by
  obtain ⟨B, p, r, h⟩ := h
  refine ⟨B, p, r, h.fr hf hl (fun e => ?_) (fun k hk e => ?_)⟩
  · obtain ⟨b, c, hp, _⟩ := h.2.1
    rw [e, hj] at hp
    simp only [Option.some.injEq, Obj.cells.injEq] at hp
    exact h1 hp.2.1
  · obtain ⟨cs', hcs⟩ := vec_cells h.2.1 k hk
    rw [e, hj] at hcs
    simp only [Option.some.injEq, Obj.cells.injEq] at hcs
    exact h2 hcs.2.1
theorem LstE.below {w w' : World} {l : Nat} {ps : List P2} {at' : Nat} (h : LstE w l ps at') (hb : Below w.heap.size w w') : LstE w' l ps at' := by
  obtain ⟨B, p, r, h⟩ := h
  exact ⟨B, p, r, h.below hb⟩
theorem LstE.lt {w : World} {l : Nat} {ps : List P2} {at' : Nat} (h : LstE w l ps at') : l < w.heap.size := by
  obtain ⟨B, p, r, h⟩ := h
  exact h.lt
theorem LstE.push {w : World} {l : Nat} {ps : List P2} {at' : Nat} (h : LstE w l ps at') (x y : Int) (hn : ps.length ≤ 16) (hat : at' ≤ ps.length) :
    Calls Try.prog 8 #[.pointer (some ⟨l, 0, none⟩), .agg #[.int .i64 x, .int .i64 y]] w fun e w' => e = .returned (.tuple #[]) ∧ LstE w' l (pshL ps (x, y)) (pshL ps (x, y)).length ∧ Fr (fun k => k = l) w w' := by
  obtain ⟨B, p, r, h⟩ := h
  exact (push_any B l p r ps at' x y w h hn hat).mono fun e w' ⟨h1, p', r', h2, h3, _⟩ => ⟨h1, ⟨_, p', r', h2⟩, h3⟩
theorem LstE.adj {w : World} {l : Nat} {ps : List P2} {at' : Nat} (h : LstE w l ps at') (a o n : Int) (hn : ps.length ≤ 16) (hat : at' ≤ ps.length) (hbd : ∀ q ∈ ps, -4611686018427387904 ≤ q.1 ∧ q.1 ≤ 4611686018427387904) :
    Calls Try.prog 14 #[.pointer (some ⟨l, 0, none⟩), .int .i64 a, .int .i64 o, .int .i64 n] w fun e w' => e = .returned (.tuple #[]) ∧ LstE w' l (adjL ps a o n) (adjN ps at' a o n) ∧ Fr (fun k => k = l) w w' := by
  obtain ⟨B, p, r, h⟩ := h
  exact (adj_any B l p r ps at' a o n w h hn hat hbd).mono fun e w' ⟨h1, p', r', h2, h3, _⟩ => ⟨h1, ⟨_, p', r', h2⟩, h3⟩
theorem LstE.all {w : World} {l : Nat} {ps : List P2} {at' : Nat} (h : LstE w l ps at') (hn : ps.length ≤ 16) :
    Calls Try.prog 16 #[.pointer (some ⟨l, 0, none⟩)] w fun e w' => ∃ b c, e = .returned (.tuple #[.slice b ps.length c, .int .i64 at']) ∧ SrcV w' 2 (.slice b ps.length c) ps.length (Ps.flat ps) ∧ Below w.heap.size w w' := by
  obtain ⟨B, p, r, h⟩ := h
  exact all_any B l p r ps at' w h (by omega)

/-- Older: whether it leads somewhere; the list and the index before the step; the index behind it; the place. -/
def olOk (at' : Nat) (n : Int) : Bool := decide (1 ≤ n ∧ n ≤ at')
def olL (ps : List P2) (at' : Nat) (q : P2) : List P2 := if at' = ps.length then pshL ps q else ps
def olK (ps : List P2) (at' : Nat) (q : P2) : Nat := if at' = ps.length then (pshL ps q).length - 1 else at'
def olI (ps : List P2) (at' : Nat) (q : P2) (n : Int) : Nat := olK ps at' q - n.toNat
def olQ (ps : List P2) (at' : Nat) (q : P2) (n : Int) : P2 := (olL ps at' q).getD (olI ps at' q n) (0, 0)
theorem olI_lt {ps : List P2} {at' : Nat} {q : P2} {n : Int} (hat : at' ≤ ps.length) : olI ps at' q n < (olL ps at' q).length := by
  unfold olI olL olK
  have := pshL_pos (ps := ps) (q := q)
  split <;> omega
theorem olL_le {ps : List P2} {at' : Nat} {q : P2} (h : ps.length ≤ 16) : (olL ps at' q).length ≤ 16 := by
  unfold olL; split
  · exact pshL_le h
  · exact h
/-- Newer. -/
def nwOk (ps : List P2) (at' : Nat) (n : Int) : Bool := decide (1 ≤ n ∧ n < (ps.length : Int) - at')
def nwQ (ps : List P2) (at' : Nat) (n : Int) : P2 := ps.getD (at' + n.toNat) (0, 0)
/-- What both answer. -/
def ansV (ok : Bool) (q : P2) : Value := if ok then .tuple #[.agg #[.int .i64 q.1, .int .i64 q.2], .bool true] else .tuple #[.agg #[.int .i64 0, .int .i64 0], .bool false]

set_option maxHeartbeats 2000000 in
/-- The end of Older, of Newer: what stands at the index is handed back. -/
theorem older_no (B l p : Nat) (r : Option Nat) (ps : List P2) (at' : Nat) (x y n : Int) (w : World) (h : Lst w B l p r ps at') (hno : ¬ (1 ≤ n ∧ n ≤ at')) :
    Calls Try.prog 10 #[.pointer (some ⟨l, 0, none⟩), .agg #[.int .i64 x, .int .i64 y], .int .i64 n] w fun e w' => e = .returned (.tuple #[.agg #[.int .i64 0, .int .i64 0], .bool false]) ∧ Below w.heap.size w w' := by
  have hl := h.lt
  have c1 := h.c1
  clear h
  have nl1 : ¬ (l = w.heap.size) := by omega
  have nl2 : ¬ (l = w.heap.size + 1) := by omega
  have ll1 : l < w.heap.size + 1 := by omega
  have hfin : ∀ W, W = (w.alloc (.cells #[.int .i64 x, .int .i64 y] 31)).alloc (.cells #[.int .i64 0, .int .i64 0] 31) → PosAt W (w.heap.size + 1) 0 0 ∧ Below w.heap.size w W := by
    rintro W rfl
    have h := PosAt.new (w.alloc (.cells #[.int .i64 x, .int .i64 y] 31)) 0 0
    simp only [World.size_alloc] at h
    exact ⟨h, ((Below.refl _ w).alloc (Nat.le_refl _) _).alloc (by simp) _⟩
  by_cases h1 : n < 1
  · go_enter Try.func10, Try.ntmps10
    go_wp2
    all_goals
      obtain ⟨f1, f2⟩ := hfin _ rfl
      exact ret_ps rfl rfl rfl rfl f1 ⟨rfl, f2⟩
  · have h2 : (at' : Int) < n := by omega
    go_enter Try.func10, Try.ntmps10
    go_wp2
    all_goals
      obtain ⟨f1, f2⟩ := hfin _ rfl
      exact ret_ps rfl rfl rfl rfl f1 ⟨rfl, f2⟩

set_option maxHeartbeats 2000000 in
theorem older_yes (B l p : Nat) (r : Option Nat) (ps : List P2) (at' : Nat) (x y n : Int) (w : World) (h : Lst w B l p r ps at') (hn : ps.length ≤ 16) (hat : at' ≤ ps.length) (hyes : 1 ≤ n ∧ n ≤ at') :
    Calls Try.prog 10 #[.pointer (some ⟨l, 0, none⟩), .agg #[.int .i64 x, .int .i64 y], .int .i64 n] w fun e w' => e = .returned (.tuple #[.agg #[.int .i64 (olQ ps at' (x, y) n).1, .int .i64 (olQ ps at' (x, y) n).2], .bool true]) ∧ (∃ B' p' r', Lst w' B' l p' r' (olL ps at' (x, y)) (olI ps at' (x, y) n)) ∧ Fr (fun k => k = l) w w' := by
  have hmx : Try.prog.follows .mixedOrders = true := by kernel_rfl
  have hl := h.lt
  have hpw := h.2.1.lt.2
  have hrw := fun k (e : r = some k) => (h.2.1.rowLt k e).2
  obtain ⟨hy1, hy2⟩ := hyes
  obtain ⟨m, rfl⟩ : ∃ m : Nat, n = m := ⟨n.toNat, by omega⟩
  have hLT := olI_lt (ps := ps) (at' := at') (q := (x, y)) (n := (m : Int)) hat
  have hLE := olL_le (ps := ps) (at' := at') (q := (x, y)) hn
  have c1 := h.c1
  have nl1 : ¬ (l = w.heap.size) := by omega
  have nl2 : ¬ (l = w.heap.size + 1) := by omega
  have ll1 : l < w.heap.size + 1 := by omega
  have n1 : ¬ ((m : Int) < 1) := by omega
  have n2 : ¬ ((at' : Int) < (m : Int)) := by omega
  have HH := Lib.hid h
  have HLT := Lib.hid hLT
  have HLE := Lib.hid hLE
  clear h hLT hLE
  obtain ⟨L, hL⟩ : ∃ L, L = olL ps at' (x, y) := ⟨_, rfl⟩
  obtain ⟨K, hK⟩ : ∃ K, K = olK ps at' (x, y) := ⟨_, rfl⟩
  have hI : olI ps at' (x, y) m = K - m := by unfold olI; rw [← hK]; simp
  have hQ : olQ ps at' (x, y) m = L.getD (K - m) (0, 0) := by unfold olQ; rw [hI, ← hL]
  have hLT : K - m < L.length := by have := HLT.out; rw [hI, ← hL] at this; exact this
  have hLE : L.length ≤ 16 := by have := HLE.out; rw [← hL] at this; exact this
  have hK17 : K ≤ 17 := by rw [hK]; unfold olK; have := pshL_le (q := (x, y)) hn; split <;> omega
  rw [← hL, hI, hQ]
  obtain ⟨q, hq⟩ : ∃ q, L[K - m]? = some q := ⟨_, List.getElem?_eq_getElem hLT⟩
  have hqd : L.getD (K - m) (0, 0) = q := by rw [List.getD_eq_getElem?_getD, hq]; rfl
  rw [hqd]
  obtain ⟨J, hJ⟩ : ∃ J, J = K - m := ⟨_, rfl⟩
  rw [← hJ] at hq hLT ⊢
  have HJ := Lib.hid hJ.symm
  have HKK := Lib.hid hK
  have HL := Lib.hid hL
  have HQQ := Lib.hid hq
  have hmax : max ((K : Int) - (m : Int)) 0 = ((K - m : Nat) : Int) := by omega
  have hJ17 : J ≤ 17 := by omega
  clear hI hQ hqd HLT HLE hK hL hq hJ
  go_enter Try.func10, Try.ntmps10
  go_wp2_with fail
  obtain ⟨w1, hw1⟩ : ∃ v, v = (w.alloc (.cells #[.int .i64 x, .int .i64 y] 31)).alloc (.cells #[.int .i64 0, .int .i64 0] 31) := ⟨_, rfl⟩
  rw [← hw1]
  have hb1 : Below w.heap.size w w1 := by rw [hw1]; exact ((Below.refl _ w).alloc (Nat.le_refl _) _).alloc (by simp) _
  have s1 : w1.heap.size = w.heap.size + 2 := by rw [hw1]; simp
  have q0 : PosAt w1 w.heap.size x y := by rw [hw1]; exact (PosAt.new w x y).below ((Below.refl _ _).alloc (Nat.le_refl _) _) (by simp)
  have q1 : PosAt w1 (w.heap.size + 1) 0 0 := by
    rw [hw1]
    have h := PosAt.new (w.alloc (.cells #[.int .i64 x, .int .i64 y] 31)) 0 0
    simp only [World.size_alloc] at h
    exact h
  have h1 := HH.out.below hb1
  have d0 := h1.c0
  have d1 := h1.c1
  have hlen : ∀ W, Below w1.heap.size w1 W → Calls Try.prog 22 #[.pointer (some ⟨p, 0, none⟩)] W fun e w' => e = .returned (.int .i64 ps.length) ∧ W = w' := fun W hW => VecQ.len_any B p r _ _ W (h1.below hW).2.1
  have HLEN := Lib.hid hlen
  have H1 := Lib.hid h1
  have HQ0 := Lib.hid q0
  have HQ1 := Lib.hid q1
  clear hw1 hlen h1 q0 q1 c1 hmx
  have F_d0 := fun (C : World → Prop) (hC : Vs.Grows (fun _ => False) w1 C) (z : Vs.In C) => hC.cell d0 (fun e => e) z
  have F_d1 := fun (C : World → Prop) (hC : Vs.Grows (fun _ => False) w1 C) (z : Vs.In C) => hC.cell d1 (fun e => e) z
  clear d0 d1
  refine Vs.wp_region_seg (S := (fun _ => False)) [0, 1, 2, 3, 4, 5, 6, 7, 8, 9] [] (by kernel_rfl) (by kernel_rfl) 60 rfl (by kernel_rfl) ?_
  simp only [List.map_cons, List.map_nil, Vs.opOf_succ, Vs.opOf_zero]
  apply Exists.intro
  refine ⟨fun C hC => ?_, ?_⟩
  · haveI hI := hC.one
    have f_d0 := F_d0 C hC
    have f_d1 := F_d1 C hC
    have g4 := fun z : Vs.In C => HLEN.out z.W ((hC.below _ z.isIn).below (Nat.le_refl _) (fun _ h => h.elim))
    repeat (go_big_quiet_step (first | (go_at_call 22; exact Vs.Calls.in_of_same hC (g4 _))))
    exact wpQuiet_nil rfl
  clear F_d0 F_d1
  refine Vs.wpPath_end ?_
  intro w2 hw2
  have hb2 := hb1.trans (hw2.mono hb1.size)
  have H2 := Lib.hid (H1.out.below hw2)
  have HQ0 := Lib.hid (HQ0.out.below hw2 (by omega))
  have HQ1 := Lib.hid (HQ1.out.below hw2 (by omega))
  have hs2 := hw2.size
  clear hw2 H1 HLEN HH
  go_upto_if 28 with fail
  go_cut [6] from 28 to 38 (fun s6 wx => s6 = .pointer (some ⟨w.heap.size + 1, 0, none⟩) ∧ ∃ B' p' r', Hid (Lst wx B' l p' r' L K ∧ PosAt wx (w.heap.size + 1) 0 0 ∧ Fr (fun k => k = l) w wx ∧ p' ≠ w.heap.size + 1 ∧ r' ≠ some (w.heap.size + 1)))
  case first =>
    by_cases he : at' = ps.length
    · have he' : ((at' : Int) == (ps.length : Int)) = true := by rw [he]; simp
      have hKe : K = (pshL ps (x, y)).length - 1 := by rw [HKK.out]; unfold olK; rw [if_pos he]
      have hLe : L = pshL ps (x, y) := by rw [HL.out]; unfold olL; rw [if_pos he]
      have HLe := Lib.hid hLe
      clear hLe
      have HE := Lib.hid he
      clear he
      have hpos := pshL_pos (ps := ps) (q := (x, y))
      obtain ⟨N, hN⟩ : ∃ N, N = (pshL ps (x, y)).length := ⟨_, rfl⟩
      have z0 := HQ0.out.c0
      have z1 := HQ0.out.c1
      have hps := push_any B l p r ps at' x y w2 H2.out hn hat
      rw [← hN] at hps hpos hKe
      have HP := Lib.hid hps
      have HN := Lib.hid hN
      have HKe := Lib.hid hKe
      have hKi : (N : Int) - 1 = (K : Int) := by omega
      clear hps hN hKe
      go_wp2_with fail
      refine HP.out.mono ?_
      rintro e w3 ⟨rfl, p3, r3, h3, hf3, hp3, hr3⟩
      have d1 := h3.c1
      have dz := h3.z 1
      have hwr : IntKind.i64.wrap ((N : Int) - 1) = (K : Int) := by rw [IntKind.wrap_i64]; omega
      have H3 := Lib.hid h3
      have HF3 := Lib.hid hf3
      clear h3 hf3
      go_wp2
      go_meet
      case rel =>
        have h5 := H3.out.setix K
        rw [← HLe.out] at h5
        have f5 : Fr (fun k => k = l) w2 (w3.setCell ⟨l, 1, none⟩ (.int .i64 (K : Int))) := HF3.out.setCell (fun _ => rfl) _
        exact ⟨rfl, w2.heap.size, p3, r3, Lib.hid ⟨h5, HQ1.out.fr f5 (by omega), (Fr.ofBelow hb2 _).trans f5, by omega, fun e => by have := hr3 _ e; omega⟩⟩
    · have he' : ((at' : Int) == (ps.length : Int)) = false := by rw [beq_eq_false_iff_ne]; omega
      have hKe : K = at' := by rw [HKK.out]; unfold olK; rw [if_neg he]
      have hLe : L = ps := by rw [HL.out]; unfold olL; rw [if_neg he]
      have HLe := Lib.hid hLe
      have HKe := Lib.hid hKe
      clear hLe hKe
      go_wp2
      go_meet
      case rel =>
        rw [HKe.out, HLe.out]
        exact ⟨rfl, B, p, r, Lib.hid ⟨H2.out, HQ1.out, Fr.ofBelow hb2 _, by omega, fun e => by have := hrw _ e; omega⟩⟩
  case rest =>
    obtain ⟨rfl, B3, p3, r3, HC⟩ := hcut
    obtain ⟨h4, g4, f4, hp4, hr4⟩ := HC.out
    have hwr : IntKind.i64.wrap ((K : Int) - (m : Int)) = (K : Int) - (m : Int) := by rw [IntKind.wrap_i64]; omega
    have d1 := h4.c1
    have dz := h4.z 1
    have H4 := Lib.hid h4
    have HG4 := Lib.hid g4
    have HF4 := Lib.hid f4
    clear h4 g4 f4 HC
    go_wp2_with fail
    rw [HJ.out]
    obtain ⟨w5, hw5⟩ : ∃ v, v = wc.setCell ⟨l, 1, none⟩ (.int .i64 (J : Int)) := ⟨_, rfl⟩
    rw [← hw5]
    have h5 := H4.out.setix J
    rw [← hw5] at h5
    have f5 : Fr (fun k => k = l) wc w5 := by rw [hw5]; exact fr_put (Fr.refl _ wc)
    have HG := Lib.hid (HG4.out.fr f5 (by omega))
    have HF5 := Lib.hid (HF4.out.trans f5)
    have d0 := h5.c0
    have d1 := h5.c1
    have hat5 : ∀ W, Below w5.heap.size w5 W → Calls Try.prog 24 #[.pointer (some ⟨p3, 0, none⟩), .int .i64 (J : Int)] W fun e w' => e = .returned (.tuple #[.agg #[.int .i64 q.1, .int .i64 q.2], .bool true]) ∧ Below W.heap.size W w' := fun W hW => VecQ.at_in B3 p3 r3 L J q W (h5.below hW).2.1 (by omega) HQQ.out
    obtain ⟨q1, q2⟩ := q
    have HAT := Lib.hid hat5
    have H5 := Lib.hid h5
    clear hw5 h5 f5 hat5 hwr hmax dz HG4 H4
    have F_d0 := fun (C : World → Prop) (hC : Vs.Grows (fun _ => False) w5 C) (z : Vs.In C) => hC.cell d0 (fun e => e) z
    have F_d1 := fun (C : World → Prop) (hC : Vs.Grows (fun _ => False) w5 C) (z : Vs.In C) => hC.cell d1 (fun e => e) z
    clear d0 d1
    refine Vs.wp_region_seg (S := (fun _ => False)) [0, 1, 2, 3, 4, 5, 6, 7, 8, 9, 10] [(11, 3), (12, 2)] (by kernel_rfl) (by kernel_rfl) 60 rfl (by kernel_rfl) ?_
    simp only [List.map_cons, List.map_nil, Vs.opOf_succ, Vs.opOf_zero]
    apply Exists.intro
    refine ⟨fun C hC => ?_, ?_⟩
    · haveI hI := hC.one
      have f_d0 := F_d0 C hC
      have f_d1 := F_d1 C hC
      have g4 := fun z : Vs.In C => HAT.out z.W ((hC.below _ z.isIn).below (Nat.le_refl _) (fun _ h => h.elim))
      repeat (go_big_quiet_step (first | (go_at_call 24; exact Vs.Calls.in_of hC (g4 _))))
      exact wpQuiet_nil rfl
    clear F_d0 F_d1
    refine Vs.wpPath_store rfl ?_
    intro u hu
    have g9 := HG.out.below hu HG.out.lt
    have gc0 := g9.c0
    have gc1 := g9.c1
    have gz := fun j => g9.z j
    have gs := g9.set q1 q2
    refine ⟨(u.setCell ⟨w.heap.size + 1, 0, none⟩ (.int .i64 q1)).setCell ⟨w.heap.size + 1, 1, none⟩ (.int .i64 q2), rfl, by simp only [Vs.opOf_succ, Vs.opOf_zero]; go_simp, ?_⟩
    simp only [Vs.opOf_succ, Vs.opOf_zero, Act.put, List.setIfInBounds_toArray, List.set_cons_zero, List.set_cons_succ]
    have hf9 : Fr (fun k => k = w.heap.size + 1) w5 ((u.setCell ⟨w.heap.size + 1, 0, none⟩ (.int .i64 q1)).setCell ⟨w.heap.size + 1, 1, none⟩ (.int .i64 q2)) := fr_put (fr_put (Fr.ofBelow hu _))
    obtain ⟨v, hv⟩ : ∃ v, v = (u.setCell ⟨w.heap.size + 1, 0, none⟩ (.int .i64 q1)).setCell ⟨w.heap.size + 1, 1, none⟩ (.int .i64 q2) := ⟨_, rfl⟩
    rw [← hv] at gs hf9 ⊢
    clear hv g9 gc0 gc1 gz hu
    refine Vs.wpPath_free (v := .bool true) rfl rfl (fun _ => by simp only [Vs.opOf_succ, Vs.opOf_zero]; go_simp) ?_
    simp only [Vs.opOf_succ, Vs.opOf_zero, Act.put, List.setIfInBounds_toArray, List.set_cons_zero, List.set_cons_succ]
    refine Vs.wpPath_end ?_
    intro W hW
    have gs := gs.below hW gs.lt
    have hf9 := hf9.trans (Fr.ofBelow hW _)
    clear hW
    go_wp2_with fail
    have hH := H5.out.fr hf9 (by omega) hp4 (fun k hk e => hr4 (e ▸ hk))
    exact ret_ps rfl rfl rfl rfl gs ⟨rfl, ⟨B3, p3, r3, hH⟩, (HF5.out.trans' hf9 (fun i hi e => by omega))⟩

set_option maxHeartbeats 2000000 in
theorem newer_no (B l p : Nat) (r : Option Nat) (ps : List P2) (at' : Nat) (n : Int) (w : World) (h : Lst w B l p r ps at') (hn : ps.length ≤ 16) (hat : at' ≤ ps.length) (hno : ¬ (1 ≤ n ∧ n < (ps.length : Int) - at')) :
    Calls Try.prog 12 #[.pointer (some ⟨l, 0, none⟩), .int .i64 n] w fun e w' => e = .returned (.tuple #[.agg #[.int .i64 0, .int .i64 0], .bool false]) ∧ Below w.heap.size w w' := by
  have hl := h.lt
  obtain ⟨w1, hw1⟩ : ∃ v, v = w.alloc (.cells #[.int .i64 0, .int .i64 0] 31) := ⟨_, rfl⟩
  have hb1 : Below w.heap.size w w1 := by rw [hw1]; exact (Below.refl _ w).alloc (Nat.le_refl _) _
  have s1 : w1.heap.size = w.heap.size + 1 := by rw [hw1]; simp
  have q1 : PosAt w1 w.heap.size 0 0 := by rw [hw1]; exact PosAt.new w 0 0
  have h1 := h.below hb1
  have d0 := h1.c0
  have d1 := h1.c1
  have hlen : ∀ W, Below w1.heap.size w1 W → Calls Try.prog 22 #[.pointer (some ⟨p, 0, none⟩)] W fun e w' => e = .returned (.int .i64 ps.length) ∧ W = w' := fun W hW => VecQ.len_any B p r _ _ W (h1.below hW).2.1
  have HLEN := Lib.hid hlen
  have HQ1 := Lib.hid q1
  have hwr : IntKind.i64.wrap ((ps.length : Int) - (at' : Int)) = (ps.length : Int) - (at' : Int) := by rw [IntKind.wrap_i64]; omega
  clear h h1 q1 hlen
  by_cases hn1 : n < 1
  · clear hno
    go_enter Try.func12, Try.ntmps12
    go_wp2_with fail
    rw [← hw1]
    clear hw1
    have F_d0 := fun (C : World → Prop) (hC : Vs.Grows (fun _ => False) w1 C) (z : Vs.In C) => hC.cell d0 (fun e => e) z
    have F_d1 := fun (C : World → Prop) (hC : Vs.Grows (fun _ => False) w1 C) (z : Vs.In C) => hC.cell d1 (fun e => e) z
    clear d0 d1
    refine Vs.wp_region_seg (S := (fun _ => False)) [0, 1, 2, 3, 4, 5, 6, 7, 8, 9, 10, 11, 12, 13, 14, 15] [] (by kernel_rfl) (by kernel_rfl) 42 rfl (by kernel_rfl) ?_
    simp only [List.map_cons, List.map_nil, Vs.opOf_succ, Vs.opOf_zero]
    apply Exists.intro
    refine ⟨fun C hC => ?_, ?_⟩
    · haveI hI := hC.one
      have f_d0 := F_d0 C hC
      have f_d1 := F_d1 C hC
      have g4 := fun z : Vs.In C => HLEN.out z.W ((hC.below _ z.isIn).below (Nat.le_refl _) (fun _ h => h.elim))
      repeat (go_big_quiet_step (first | (go_at_call 22; exact Vs.Calls.in_of_same hC (g4 _))))
      exact wpQuiet_nil rfl
    clear F_d0 F_d1
    refine Vs.wpPath_end ?_
    intro w2 hw2
    have g2 := HQ1.out.below hw2 (by omega)
    have b2 := hb1.trans (hw2.mono hb1.size)
    have HG := Lib.hid g2
    have HB := Lib.hid b2
    have z0 := g2.c0
    have z1 := g2.c1
    have zz := fun j => g2.z j
    clear g2 b2 hw2
    go_wp2
    all_goals exact ret_ps rfl rfl rfl rfl (HG.out.set 0 0) ⟨rfl, (HB.out.setCell (p := ⟨w.heap.size, 0, none⟩) (Nat.le_refl _) _).setCell (p := ⟨w.heap.size, 1, none⟩) (Nat.le_refl _) _⟩
  · have hn2 : ¬ (n < (ps.length : Int) - (at' : Int)) := by omega
    have hdn : decide (n < 1) = false := by simpa using hn1
    clear hno
    go_enter Try.func12, Try.ntmps12
    go_wp2_with fail
    rw [← hw1]
    clear hw1
    have F_d0 := fun (C : World → Prop) (hC : Vs.Grows (fun _ => False) w1 C) (z : Vs.In C) => hC.cell d0 (fun e => e) z
    have F_d1 := fun (C : World → Prop) (hC : Vs.Grows (fun _ => False) w1 C) (z : Vs.In C) => hC.cell d1 (fun e => e) z
    clear d0 d1
    refine Vs.wp_region_seg (S := (fun _ => False)) [0, 1, 2, 3, 4, 5, 6, 7, 8, 9, 10, 11, 12, 13, 14, 15] [] (by kernel_rfl) (by kernel_rfl) 42 rfl (by kernel_rfl) ?_
    simp only [List.map_cons, List.map_nil, Vs.opOf_succ, Vs.opOf_zero]
    apply Exists.intro
    refine ⟨fun C hC => ?_, ?_⟩
    · haveI hI := hC.one
      have f_d0 := F_d0 C hC
      have f_d1 := F_d1 C hC
      have g4 := fun z : Vs.In C => HLEN.out z.W ((hC.below _ z.isIn).below (Nat.le_refl _) (fun _ h => h.elim))
      repeat (go_big_quiet_step (first | (go_at_call 22; exact Vs.Calls.in_of_same hC (g4 _))))
      exact wpQuiet_nil rfl
    clear F_d0 F_d1
    refine Vs.wpPath_end ?_
    intro w2 hw2
    have g2 := HQ1.out.below hw2 (by omega)
    have b2 := hb1.trans (hw2.mono hb1.size)
    have HG := Lib.hid g2
    have HB := Lib.hid b2
    have z0 := g2.c0
    have z1 := g2.c1
    have zz := fun j => g2.z j
    clear g2 b2 hw2
    go_wp2
    all_goals exact ret_ps rfl rfl rfl rfl (HG.out.set 0 0) ⟨rfl, (HB.out.setCell (p := ⟨w.heap.size, 0, none⟩) (Nat.le_refl _) _).setCell (p := ⟨w.heap.size, 1, none⟩) (Nat.le_refl _) _⟩

set_option maxHeartbeats 2000000 in
theorem newer_yes (B l p : Nat) (r : Option Nat) (ps : List P2) (at' : Nat) (n : Int) (w : World) (h : Lst w B l p r ps at') (hn : ps.length ≤ 16) (hat : at' ≤ ps.length) (hyes : 1 ≤ n ∧ n < (ps.length : Int) - at') :
    Calls Try.prog 12 #[.pointer (some ⟨l, 0, none⟩), .int .i64 n] w fun e w' => e = .returned (.tuple #[.agg #[.int .i64 (nwQ ps at' n).1, .int .i64 (nwQ ps at' n).2], .bool true]) ∧ Lst w' B l p r ps (at' + n.toNat) ∧ Fr (fun k => k = l) w w' := by
  have hl := h.lt
  have hpw := h.2.1.lt.2
  have hrw := fun k (e : r = some k) => (h.2.1.rowLt k e).2
  obtain ⟨hy1, hy2⟩ := hyes
  obtain ⟨m, rfl⟩ : ∃ m : Nat, n = m := ⟨n.toNat, by omega⟩
  have hlt : at' + m < ps.length := by omega
  obtain ⟨q, hq⟩ : ∃ q, ps[at' + m]? = some q := ⟨_, List.getElem?_eq_getElem hlt⟩
  have hqd : nwQ ps at' m = q := by unfold nwQ; rw [Int.toNat_natCast, List.getD_eq_getElem?_getD, hq]; rfl
  rw [hqd, Int.toNat_natCast]
  obtain ⟨J, hJ⟩ : ∃ J, J = at' + m := ⟨_, rfl⟩
  have hJi : (at' : Int) + (m : Int) = (J : Int) := by omega
  have hwr2 : IntKind.i64.wrap ((at' : Int) + (m : Int)) = (J : Int) := by rw [IntKind.wrap_i64]; omega
  have hJ17 : J ≤ 17 := by omega
  rw [← hJ] at hq ⊢
  obtain ⟨w1, hw1⟩ : ∃ v, v = w.alloc (.cells #[.int .i64 0, .int .i64 0] 31) := ⟨_, rfl⟩
  have hb1 : Below w.heap.size w w1 := by rw [hw1]; exact (Below.refl _ w).alloc (Nat.le_refl _) _
  have s1 : w1.heap.size = w.heap.size + 1 := by rw [hw1]; simp
  have q1 : PosAt w1 w.heap.size 0 0 := by rw [hw1]; exact PosAt.new w 0 0
  have h1 := h.below hb1
  have d0 := h1.c0
  have d1 := h1.c1
  have hlen : ∀ W, Below w1.heap.size w1 W → Calls Try.prog 22 #[.pointer (some ⟨p, 0, none⟩)] W fun e w' => e = .returned (.int .i64 ps.length) ∧ W = w' := fun W hW => VecQ.len_any B p r _ _ W (h1.below hW).2.1
  have HLEN := Lib.hid hlen
  have HQ1 := Lib.hid q1
  have H1 := Lib.hid h1
  have HQQ := Lib.hid hq
  have hwr : IntKind.i64.wrap ((ps.length : Int) - (at' : Int)) = (ps.length : Int) - (at' : Int) := by rw [IntKind.wrap_i64]; omega
  have hn1 : ¬ ((m : Int) < 1) := by omega
  have hdn : decide ((m : Int) < 1) = false := by simp; omega
  clear h h1 q1 hlen hq hqd hJ
  go_enter Try.func12, Try.ntmps12
  go_wp2_with fail
  rw [← hw1]
  clear hw1
  have F_d0 := fun (C : World → Prop) (hC : Vs.Grows (fun _ => False) w1 C) (z : Vs.In C) => hC.cell d0 (fun e => e) z
  have F_d1 := fun (C : World → Prop) (hC : Vs.Grows (fun _ => False) w1 C) (z : Vs.In C) => hC.cell d1 (fun e => e) z
  clear d0 d1
  refine Vs.wp_region_seg (S := (fun _ => False)) [0, 1, 2, 3, 4, 5, 6, 7, 8, 9, 10, 11, 12, 13, 14, 15] [] (by kernel_rfl) (by kernel_rfl) 42 rfl (by kernel_rfl) ?_
  simp only [List.map_cons, List.map_nil, Vs.opOf_succ, Vs.opOf_zero]
  apply Exists.intro
  refine ⟨fun C hC => ?_, ?_⟩
  · haveI hI := hC.one
    have f_d0 := F_d0 C hC
    have f_d1 := F_d1 C hC
    have g4 := fun z : Vs.In C => HLEN.out z.W ((hC.below _ z.isIn).below (Nat.le_refl _) (fun _ h => h.elim))
    repeat (go_big_quiet_step (first | (go_at_call 22; exact Vs.Calls.in_of_same hC (g4 _))))
    exact wpQuiet_nil rfl
  clear F_d0 F_d1
  refine Vs.wpPath_end ?_
  intro w2 hw2
  have hb2 := hb1.trans (hw2.mono hb1.size)
  have h2 := H1.out.below hw2
  have g2 := HQ1.out.below hw2 (by omega)
  have hs2 := hw2.size
  have d1 := h2.c1
  have dz := h2.z 1
  have H4 := Lib.hid h2
  have HG4 := Lib.hid g2
  have HB4 := Lib.hid hb2
  clear hw2 h2 g2 hb2 HLEN H1 HQ1
  go_wp2_with fail
  obtain ⟨w5, hw5⟩ : ∃ v, v = w2.setCell ⟨l, 1, none⟩ (.int .i64 (J : Int)) := ⟨_, rfl⟩
  rw [← hw5]
  have h5 := H4.out.setix J
  rw [← hw5] at h5
  have f5 : Fr (fun k => k = l) w2 w5 := by rw [hw5]; exact fr_put (Fr.refl _ w2)
  have HG := Lib.hid (HG4.out.fr f5 (by omega))
  have HF5 := Lib.hid ((Fr.ofBelow HB4.out (fun k => k = l)).trans f5)
  have d0 := h5.c0
  have d1 := h5.c1
  have hat5 : ∀ W, Below w5.heap.size w5 W → Calls Try.prog 24 #[.pointer (some ⟨p, 0, none⟩), .int .i64 (J : Int)] W fun e w' => e = .returned (.tuple #[.agg #[.int .i64 q.1, .int .i64 q.2], .bool true]) ∧ Below W.heap.size W w' := fun W hW => VecQ.at_in B p r ps J q W (h5.below hW).2.1 (by omega) HQQ.out
  obtain ⟨q1, q2⟩ := q
  have HAT := Lib.hid hat5
  have H5 := Lib.hid h5
  clear hw5 h5 f5 hat5 hwr hwr2 hJi dz HG4 H4
  have F_d0 := fun (C : World → Prop) (hC : Vs.Grows (fun _ => False) w5 C) (z : Vs.In C) => hC.cell d0 (fun e => e) z
  have F_d1 := fun (C : World → Prop) (hC : Vs.Grows (fun _ => False) w5 C) (z : Vs.In C) => hC.cell d1 (fun e => e) z
  clear d0 d1
  refine Vs.wp_region_seg (S := (fun _ => False)) [0, 1, 2, 3, 4, 5, 6, 7, 8, 9, 10] [(11, 3), (12, 2)] (by kernel_rfl) (by kernel_rfl) 42 rfl (by kernel_rfl) ?_
  simp only [List.map_cons, List.map_nil, Vs.opOf_succ, Vs.opOf_zero]
  apply Exists.intro
  refine ⟨fun C hC => ?_, ?_⟩
  · haveI hI := hC.one
    have f_d0 := F_d0 C hC
    have f_d1 := F_d1 C hC
    have g4 := fun z : Vs.In C => HAT.out z.W ((hC.below _ z.isIn).below (Nat.le_refl _) (fun _ h => h.elim))
    repeat (go_big_quiet_step (first | (go_at_call 24; exact Vs.Calls.in_of hC (g4 _))))
    exact wpQuiet_nil rfl
  clear F_d0 F_d1
  refine Vs.wpPath_store rfl ?_
  intro u hu
  have g9 := HG.out.below hu HG.out.lt
  have gc0 := g9.c0
  have gc1 := g9.c1
  have gz := fun j => g9.z j
  have gs := g9.set q1 q2
  refine ⟨(u.setCell ⟨w.heap.size, 0, none⟩ (.int .i64 q1)).setCell ⟨w.heap.size, 1, none⟩ (.int .i64 q2), rfl, by simp only [Vs.opOf_succ, Vs.opOf_zero]; go_simp, ?_⟩
  simp only [Vs.opOf_succ, Vs.opOf_zero, Act.put, List.setIfInBounds_toArray, List.set_cons_zero, List.set_cons_succ]
  have hf9 : Fr (fun k => k = w.heap.size) w5 ((u.setCell ⟨w.heap.size, 0, none⟩ (.int .i64 q1)).setCell ⟨w.heap.size, 1, none⟩ (.int .i64 q2)) := fr_put (fr_put (Fr.ofBelow hu _))
  obtain ⟨v, hv⟩ : ∃ v, v = (u.setCell ⟨w.heap.size, 0, none⟩ (.int .i64 q1)).setCell ⟨w.heap.size, 1, none⟩ (.int .i64 q2) := ⟨_, rfl⟩
  rw [← hv] at gs hf9 ⊢
  clear hv g9 gc0 gc1 gz hu
  refine Vs.wpPath_free (v := .bool true) rfl rfl (fun _ => by simp only [Vs.opOf_succ, Vs.opOf_zero]; go_simp) ?_
  simp only [Vs.opOf_succ, Vs.opOf_zero, Act.put, List.setIfInBounds_toArray, List.set_cons_zero, List.set_cons_succ]
  refine Vs.wpPath_end ?_
  intro W hW
  have gs := gs.below hW gs.lt
  have hf9 := hf9.trans (Fr.ofBelow hW _)
  clear hW
  go_wp2_with fail
  have hH := H5.out.fr hf9 (by omega) (by omega) (fun k hk e => by have := hrw k hk; omega)
  exact ret_ps rfl rfl rfl rfl gs ⟨rfl, hH, (HF5.out.trans' hf9 (fun i hi e => by omega))⟩

theorem LstE.older {w : World} {l : Nat} {ps : List P2} {at' : Nat} (h : LstE w l ps at') (x y n : Int) (hn : ps.length ≤ 16) (hat : at' ≤ ps.length) :
    Calls Try.prog 10 #[.pointer (some ⟨l, 0, none⟩), .agg #[.int .i64 x, .int .i64 y], .int .i64 n] w fun e w' => e = .returned (ansV (olOk at' n) (olQ ps at' (x, y) n)) ∧ LstE w' l (if olOk at' n then olL ps at' (x, y) else ps) (if olOk at' n then olI ps at' (x, y) n else at') ∧ Fr (fun k => k = l) w w' := by
  obtain ⟨B, p, r, h⟩ := h
  by_cases hy : 1 ≤ n ∧ n ≤ at'
  · have ho : olOk at' n = true := by unfold olOk; simpa using hy
    rw [ho]
    exact (older_yes B l p r ps at' x y n w h hn hat hy).mono fun e w' ⟨h1, ⟨B', p', r', h2⟩, h3⟩ => ⟨h1, ⟨B', p', r', h2⟩, h3⟩
  · have ho : olOk at' n = false := by unfold olOk; simpa using hy
    rw [ho]
    exact (older_no B l p r ps at' x y n w h hy).mono fun e w' ⟨h1, h2⟩ => ⟨h1, ⟨B, p, r, h.below h2⟩, Fr.ofBelow h2 _⟩
theorem LstE.newer {w : World} {l : Nat} {ps : List P2} {at' : Nat} (h : LstE w l ps at') (n : Int) (hn : ps.length ≤ 16) (hat : at' ≤ ps.length) :
    Calls Try.prog 12 #[.pointer (some ⟨l, 0, none⟩), .int .i64 n] w fun e w' => e = .returned (ansV (nwOk ps at' n) (nwQ ps at' n)) ∧ LstE w' l ps (if nwOk ps at' n then at' + n.toNat else at') ∧ Fr (fun k => k = l) w w' := by
  obtain ⟨B, p, r, h⟩ := h
  by_cases hy : 1 ≤ n ∧ n < (ps.length : Int) - at'
  · have ho : nwOk ps at' n = true := by unfold nwOk; simpa using hy
    rw [ho]
    exact (newer_yes B l p r ps at' n w h hn hat hy).mono fun e w' ⟨h1, h2, h3⟩ => ⟨h1, ⟨B, p, r, h2⟩, h3⟩
  · have ho : nwOk ps at' n = false := by unfold nwOk; simpa using hy
    rw [ho]
    exact (newer_no B l p r ps at' n w h hn hat hy).mono fun e w' ⟨h1, h2⟩ => ⟨h1, ⟨B, p, r, h.below h2⟩, Fr.ofBelow h2 _⟩

end Go.Proofs.Ytfclclnlmhbgiaa.Jp
