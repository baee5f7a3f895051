/-
  Where an offset lies among the pieces.
-/
import Derived.Test.YtfllgmgipmmpkaaGreatDoorTab
set_option linter.unusedVariables false
set_option linter.unusedSimpArgs false
set_option maxRecDepth 100000
namespace Go.Proofs.YtfllgmgipmmpkaaGreatDoor.Tb
open Go Go.RowKit Go.Proofs.YtfllgmgipmmpkaaGreatDoor.Vk Go.Shelf
open VecP (E TV)
attribute [local go_sem] Oper.semAt_some

theorem frK {S : Nat → Prop} {B : Nat} {w : World} (hB : B ≤ w.heap.size) : ∀ (V : World) (l : Nat) (o o' : Obj), w.heap.size ≤ l → V.heap[l]? = some o → o.isCells = false → o.isWalk = false → Fr (fun k => S k ∨ B ≤ k) V (V.putObj l o') :=
  fun V l o o' hl ho _ _ => Fr.grown (Fr.refl _ V) (grownBy_putObj' V l o') (fun k e _ => by cases e; exact .inr (by omega))

theorem own_heap {α : Type} {B k : Nat} (hk : k < B) (f : List α → Obj) : OwnFrom B (fun pre (V : World) => V.heap[k]? = some (f pre)) :=
  fun s A B' row hs hg hr => (hg.block _ (Array.getElem?_eq_some_iff.1 hs).1 (fun e => by have := (hr _ e.symm).1; omega)).trans hs
theorem own_below {α : Type} {B B0 : Nat} {w : World} (h1 : B0 ≤ w.heap.size) (hB : B0 ≤ B) : OwnFrom B (fun (_ : List α) (V : World) => Below B0 w V) :=
  fun s A B' row hs hg hr => hs.grown hg (by have := hs.size; omega) (fun k e => by have := (hr k e).1; omega)

/-- What find answers. -/
def Found (ps : List Pc) (off i : Nat) (q : Pc) (left : Nat) : Prop :=
  (left = 0 ∧ i ≤ ps.length ∧ tot (ps.take i) = off) ∨ (0 < left ∧ ps[i]? = some q ∧ left < q.z ∧ tot (ps.take i) + left = off)

theorem found_in {ps : List Pc} {off i : Nat} {q : Pc} (hq : ps[i]? = some q) (h1 : tot (ps.take i) ≤ off) (h2 : off - tot (ps.take i) < q.z) : Found ps off i q (off - tot (ps.take i)) := by
  have := (List.getElem?_eq_some_iff.1 hq).1
  by_cases h0 : off - tot (ps.take i) = 0
  · exact .inl ⟨h0, by omega, by omega⟩
  · exact .inr ⟨by omega, hq, h2, by omega⟩

theorem found_end {ps : List Pc} {off : Nat} {q : Pc} (h1 : tot (ps.take ps.length) ≤ off) (h2 : off ≤ tot ps) : Found ps off ps.length q 0 := by
  rw [List.take_length] at h1
  exact .inl ⟨rfl, Nat.le_refl _, by rw [List.take_length]; omega⟩

/-- What find leaves in its results' cells. -/
def FindOut (N : Nat) (ps : List Pc) (off : Nat) (V : World) : Prop :=
  ∃ i q left, V.heap[N + 1]? = some (.cells #[.int .i64 (i : Nat)] 3 (0, 0)) ∧ V.heap[N + 2]? = some (.cells #[.int .i64 (q.b : Nat), .int .i64 (q.s : Nat), .int .i64 (q.z : Nat)] E (0, 0)) ∧ V.heap[N + 3]? = some (.cells #[.int .i64 (left : Nat)] 3 (0, 0)) ∧ Found ps off i q left

theorem find_stop (w V : World) (N : Nat) (ps : List Pc) (off : Nat) (x y : Nat) (q : Pc) (g1 : V.heap[N + 1]? = some (.cells #[.int .i64 0] 3 (0, 0))) (g2 : V.heap[N + 2]? = some (.cells #[.int .i64 0, .int .i64 0, .int .i64 0] E (0, 0))) (g3 : V.heap[N + 3]? = some (.cells #[.int .i64 0] 3 (0, 0)))
    (hB : Below N w V) (hf : Found ps off x q y) (lo hi : Nat) (hlo : N + 4 ≤ lo) (hhi : hi ≤ V.heap.size) :
    ∀ W, W = ((((V.setCell ⟨N + 1, 0, none⟩ (.int .i64 x)).setCell ⟨N + 1 + 1, 0, none⟩ (.int .i64 q.b)).setCell ⟨N + 1 + 1, 1, none⟩ (.int .i64 q.s)).setCell ⟨N + 1 + 1, 2, none⟩ (.int .i64 q.z)).setCell ⟨N + 1 + 1 + 1, 0, none⟩ (.int .i64 y) →
    (Keep lo hi V W.drew ∧ Below N w W.drew ∧ FindOut N ps off W.drew) ∧ Below N w W ∧ FindOut N ps off W := by
  have H : ∀ W, W = ((((V.setCell ⟨N + 1, 0, none⟩ (.int .i64 x)).setCell ⟨N + 1 + 1, 0, none⟩ (.int .i64 q.b)).setCell ⟨N + 1 + 1, 1, none⟩ (.int .i64 q.s)).setCell ⟨N + 1 + 1, 2, none⟩ (.int .i64 q.z)).setCell ⟨N + 1 + 1 + 1, 0, none⟩ (.int .i64 y) → Keep lo hi V W ∧ Below N w W ∧ FindOut N ps off W := ?_
  · exact fun W hW => ⟨⟨(H W hW).1.drew, (H W hW).2.1.drew, (H W hW).2.2⟩, (H W hW).2⟩
  rintro W rfl
  have s1 := heap_setCell_same V (N + 1) 0 _ _ (.int .i64 x) g1
  have o : ∀ (U : World) (q k : Nat) (j : Nat) (v : Value), k ≠ q → (U.setCell ⟨q, j, none⟩ v).heap[k]? = U.heap[k]? := fun U q k j v h => heap_setCell_other U ⟨q, j, none⟩ k v h
  have t0 := (o V (N + 1) (N + 1 + 1) 0 (.int .i64 x) (by omega)).trans g2
  have t1 := heap_setCell_same _ (N + 1 + 1) 0 _ _ (.int .i64 q.b) t0
  have t2 := heap_setCell_same _ (N + 1 + 1) 1 _ _ (.int .i64 q.s) t1
  have t3 := heap_setCell_same _ (N + 1 + 1) 2 _ _ (.int .i64 q.z) t2
  have u0 := ((o _ (N + 1 + 1) (N + 1 + 1 + 1) 2 (.int .i64 q.z) (by omega)).trans ((o _ (N + 1 + 1) (N + 1 + 1 + 1) 1 (.int .i64 q.s) (by omega)).trans ((o _ (N + 1 + 1) (N + 1 + 1 + 1) 0 (.int .i64 q.b) (by omega)).trans ((o V (N + 1) (N + 1 + 1 + 1) 0 (.int .i64 x) (by omega)).trans g3))))
  have u1 := heap_setCell_same _ (N + 1 + 1 + 1) 0 _ _ (.int .i64 y) u0
  refine ⟨?_, ?_, x, q, y, ?_, ?_, ?_, hf⟩
  · exact (((((Keep.refl _ _ _).setCell (.inl (by show N + 1 < lo; omega)) _).setCell (.inl (by show N + 1 + 1 < lo; omega)) _).setCell (.inl (by show N + 1 + 1 < lo; omega)) _).setCell (.inl (by show N + 1 + 1 < lo; omega)) _).setCell (.inl (by show N + 1 + 1 + 1 < lo; omega)) _
  · exact ((((hB.setCell (p := ⟨N + 1, 0, none⟩) (by show N ≤ N + 1; omega) _).setCell (p := ⟨N + 1 + 1, 0, none⟩) (by show N ≤ N + 1 + 1; omega) _).setCell (p := ⟨N + 1 + 1, 1, none⟩) (by show N ≤ N + 1 + 1; omega) _).setCell (p := ⟨N + 1 + 1, 2, none⟩) (by show N ≤ N + 1 + 1; omega) _).setCell (p := ⟨N + 1 + 1 + 1, 0, none⟩) (by show N ≤ N + 1 + 1 + 1; omega) _
  · rw [o _ _ _ _ _ (by omega), o _ _ _ _ _ (by omega), o _ _ _ _ _ (by omega), o _ _ _ _ _ (by omega), s1]; simp
  · rw [o _ _ _ _ _ (by omega), show N + 2 = N + 1 + 1 from rfl, t3]; simp
  · rw [show N + 3 = N + 1 + 1 + 1 from rfl, u1]; simp

theorem FindOut.put {N : Nat} {ps : List Pc} {off : Nat} {V : World} (h : FindOut N ps off V) {D : Nat} (hD : N + 4 ≤ D) (o : Obj) : FindOut N ps off (V.putObj D o) := by
  obtain ⟨i, q, left, h1, h2, h3, hf⟩ := h
  exact ⟨i, q, left, (World.putObj_heap_other (by omega)).trans h1, (World.putObj_heap_other (by omega)).trans h2, (World.putObj_heap_other (by omega)).trans h3, hf⟩

theorem name_post {Q : Exit → Act → World → Prop} {e : Exit} {a : Act} {W : World} (h : ∀ Wi, Wi = W → Q e a Wi) : Q e a W := h W rfl

section
variable {w : World} {base t p : Nat} {r : Option Nat} {b0 : Option Addr} {c0 : Nat} {l0 : List UInt8} {b1 : Option Addr} {c1 : Nat} {l1 : List UInt8} {ps : List Pc} {T : List UInt8} {most : Int} {edits used : Nat}

set_option maxHeartbeats 2000000 in
theorem find_any (h : TabX w base t p r b0 c0 l0 b1 c1 l1 ps T most edits used) (off : Nat) (hoff : off ≤ T.length) (hT : T.length ≤ 1000000) (hn : ps.length ≤ 1000000) :
    Calls Tryz.prog 92 #[.pointer (some ⟨t, 0, none⟩), .int .i64 off] w fun e w' => (∃ i q left, e = .returned (.tuple #[.int .i64 (i : Nat), Pc.val q, .int .i64 (left : Nat)]) ∧ Found ps off i q left) ∧ Below w.heap.size w w' := by
  obtain ⟨k0, k1, k2, k3, k4, k5⟩ := h.cells
  have hlt : t < w.heap.size := World.block_lt_of_cell? w _ k2
  have hpl := h.vec.lt.2
  have htot := h.tot_len
  have m1 : t < w.heap.size + 1 := by omega
  have m2 : t < w.heap.size + 1 + 1 := by omega
  have m3 : t < w.heap.size + 1 + 1 + 1 := by omega
  have n1 : ¬ (t = w.heap.size) := by omega
  have n2 : ¬ (t = w.heap.size + 1) := by omega
  have n3 : ¬ (t = w.heap.size + 1 + 1) := by omega
  have n4 : ¬ (t = w.heap.size + 1 + 1 + 1) := by omega
  have HO := Lib.hid htot
  have HH := Lib.hid h
  clear k0 k1 k3 k4 k5 htot h
  refine (callsIn_wide (n := 9)).1 ?_
  refine callsIn_of_wp_marks Tryz.func92 rfl trivial ?_ rfl
  simp only [Tryz.ntmps92, List.size_toArray, List.length_cons, List.length_nil, Nat.reduceAdd, Nat.reduceSub, Array.replicate_succ, Array.replicate_zero, List.push_toArray, List.append_toArray, List.nil_append, List.cons_append]
  refine wpIn_mono (Q := noPanic _) ?_ (noPanic_out _)
  gi_wp2_with (refine ⟨trivial, ?_⟩; gi_at_call 61; refine (callsIn_wide.2 (VecP.all_new _ _)).mono ?_; rintro e w' ⟨rfl, rfl⟩)
  refine name_world ?_
  intro Wi hWi
  have hWi : Wi = (((((w.alloc (.cells #[.int .i64 off] 3)).alloc (.cells #[.int .i64 0] 3)).alloc (.cells #[.int .i64 0, .int .i64 0, .int .i64 0] E)).alloc (.cells #[.int .i64 0] 3)).alloc (.cells #[.pointer (some ⟨p, 0, none⟩)] 85)).alloc (.cells #[.func (.func 83) #[] #[]] 126) := hWi
  have si : Wi.heap.size = w.heap.size + 6 := by rw [hWi]; simp
  have bi : Below w.heap.size w Wi := by
    rw [hWi]
    exact ((((((Below.refl _ w).alloc (Nat.le_refl _) _).alloc (by simp only [World.size_alloc]; omega) _).alloc (by simp only [World.size_alloc]; omega) _).alloc (by simp only [World.size_alloc]; omega) _).alloc (by simp only [World.size_alloc]; omega) _).alloc (by simp only [World.size_alloc]; omega) _
  have ez : off - tot (ps.take ([] : List (Nat × Pc)).length) = off := by simp [tot]
  have e0 : Wi.heap[w.heap.size]? = some (.cells #[.int .i64 ((off - tot (ps.take ([] : List (Nat × Pc)).length) : Nat) : Int)] 3 (0, 0)) := by rw [ez, hWi]; simp only [heap_alloc_if, World.size_alloc]; repeat (first | rw [if_pos trivial] | rw [if_pos (by omega)] | rw [if_neg (by omega)])
  have e1 : Wi.heap[w.heap.size + 1]? = some (.cells #[.int .i64 0] 3 (0, 0)) := by rw [hWi]; simp only [heap_alloc_if, World.size_alloc]; repeat (first | rw [if_pos trivial] | rw [if_pos (by omega)] | rw [if_neg (by omega)])
  have e2 : Wi.heap[w.heap.size + 2]? = some (.cells #[.int .i64 0, .int .i64 0, .int .i64 0] E (0, 0)) := by rw [hWi]; simp only [heap_alloc_if, World.size_alloc]; repeat (first | rw [if_pos trivial] | rw [if_pos (by omega)] | rw [if_neg (by omega)])
  have e3 : Wi.heap[w.heap.size + 3]? = some (.cells #[.int .i64 0] 3 (0, 0)) := by rw [hWi]; simp only [heap_alloc_if, World.size_alloc]; repeat (first | rw [if_pos trivial] | rw [if_pos (by omega)] | rw [if_neg (by omega)])
  have c4 : Wi.cell? ⟨w.heap.size + 4, 0, none⟩ = some (.pointer (some ⟨p, 0, none⟩)) := (cell_of_row Wi _ 0 _ _ _ (by rw [hWi]; simp only [heap_alloc_if, World.size_alloc]; repeat (first | rw [if_pos trivial] | rw [if_pos (by omega)] | rw [if_neg (by omega)]))).trans (by simp)
  have c5 : Wi.cell? ⟨w.heap.size + 5, 0, none⟩ = some (.func (.func 83) #[] #[]) := (cell_of_row Wi _ 0 _ _ _ (by rw [hWi]; simp only [heap_alloc_if, World.size_alloc]; repeat (first | rw [if_pos trivial] | rw [if_pos (by omega)] | rw [if_neg (by omega)]))).trans (by simp)
  have hvi := HH.out.vec.fr (Fr.ofBelow bi (fun _ => False)) (by simp) (by simp)
  have hrl : ∀ k, r = some k → k < w.heap.size := fun k hk => by have := (HH.out.vec.rowLt k hk).2; omega
  have iter := VecP.all_iter base p (w.heap.size + 5) (w.heap.size + 4) r ps Wi hvi hn (fun k => w.heap.size ≤ k ∧ k < w.heap.size + 4) (by omega) (fun k hk => by have := hrl k hk; omega) (by omega) c5 c4
  clear hWi c4 c5 hvi
  refine rangeFunc_iter (by omega) (gf := 100) (lb := #[.pointer (some ⟨w.heap.size + 5, 0, none⟩), .pointer (some ⟨w.heap.size + 4, 0, none⟩)]) rfl (enters_of Tryz.func100 (by kernel_rfl) rfl) iter
    (fun h1 h2 => h1.trans h2) (frK (by omega)) (Below.refl _ _) (fun _ => rfl)
    (fun pre V => Below w.heap.size w V ∧ V.heap[w.heap.size]? = some (.cells #[.int .i64 ((off - tot (ps.take pre.length) : Nat) : Int)] 3 (0, 0)) ∧ V.heap[w.heap.size + 1]? = some (.cells #[.int .i64 0] 3 (0, 0)) ∧ V.heap[w.heap.size + 2]? = some (.cells #[.int .i64 0, .int .i64 0, .int .i64 0] E (0, 0)) ∧ V.heap[w.heap.size + 3]? = some (.cells #[.int .i64 0] 3 (0, 0)) ∧ tot (ps.take pre.length) ≤ off)
    (fun c pre V => c = .ret ∧ Below w.heap.size w V ∧ FindOut w.heap.size ps off V) ?hI ?hIx ⟨bi, e0, e1, e2, e3, by simp [tot]⟩ ?round ?done ?stop
  case hI =>
    exact OwnFrom.and (own_below (by omega) (by omega)) (OwnFrom.and (own_heap (by omega) _) (OwnFrom.and (own_heap (by omega) _) (OwnFrom.and (own_heap (by omega) _) (OwnFrom.and (own_heap (by omega) _) (ownFrom_pure _ _)))))
  case hIx =>
    rintro c s A B row ⟨hc, hb, i, q, left, h1, h2, h3, hf⟩ hg hr
    exact ⟨hc, own_below (B := Wi.heap.size) (α := Nat) (w := w) (by omega) (by omega) [] A B row hb hg hr, i, q, left, own_heap (α := Nat) (by omega) (fun _ => _) [] A B row h1 hg hr, own_heap (α := Nat) (by omega) (fun _ => _) [] A B row h2 hg hr, own_heap (α := Nat) (by omega) (fun _ => _) [] A B row h3 hg hr, hf⟩
  case round =>
    rintro l' pre x V0 ⟨rest, hpr⟩ hsz0 ⟨hB0, h0, h1, h2, h3, hle⟩
    obtain ⟨hk, hx⟩ := VecP.range_at _ _ pre x rest hpr
    obtain ⟨q, hq⟩ : ∃ q, ps[pre.length]? = some q := ⟨_, List.getElem?_eq_getElem hk⟩
    have hx : x = (pre.length, q) := by rw [hx, List.getD_eq_getElem?_getD, hq]; rfl
    subst hx
    clear hpr
    obtain ⟨qb, qs, qz⟩ := q
    dsimp only [Pc.val]
    gi_wp2
    have hN0 : w.heap.size < V0.heap.size := by omega
    refine ⟨(Keep.refl _ _ _).alloc _ hsz0, (Fr.refl _ _).alloc _, ⟨hB0.alloc (by omega) _, (Below.heap_alloc _ _ _ (by omega)).trans h0, (Below.heap_alloc _ _ _ (by omega)).trans h1, (Below.heap_alloc _ _ _ (by omega)).trans h2, (Below.heap_alloc _ _ _ (by omega)).trans h3, hle⟩, ?_⟩
    rintro V2 hgr hl' - hsz2 ⟨hB, g0, g1, g2, g3, -⟩
    have gx : V2.heap[V0.heap.size]? = some (.cells #[.int .i64 qb, .int .i64 qs, .int .i64 qz] E (0, 0)) := (hgr.block _ (by simp) (by intro e; injection e with e; omega)).trans (heap_alloc_new V0 _)
    have hV2 : V0.heap.size < V2.heap.size := by have := hgr.size; simp at this; omega
    clear h0 h1 h2 h3 hB0 hgr
    obtain ⟨d, hd⟩ : ∃ d, d = off - tot (ps.take pre.length) := ⟨_, rfl⟩
    rw [← hd] at g0
    obtain ⟨B, hBx⟩ : ∃ B, B = V0.heap.size := ⟨_, rfl⟩
    rw [← hBx] at gx hV2 ⊢
    have hNB : w.heap.size + 6 < B := by omega
    have x0 : V2.cell? ⟨B, 0, none⟩ = some (.int .i64 qb) := (cell_of_row V2 _ 0 _ _ _ gx).trans (by simp)
    have x1 : V2.cell? ⟨B, 1, none⟩ = some (.int .i64 qs) := (cell_of_row V2 _ 1 _ _ _ gx).trans (by simp)
    have x2 : V2.cell? ⟨B, 2, none⟩ = some (.int .i64 qz) := (cell_of_row V2 _ 2 _ _ _ gx).trans (by simp)
    have y0 : V2.cell? ⟨w.heap.size, 0, none⟩ = some (.int .i64 d) := (cell_of_row V2 _ 0 _ _ _ g0).trans (by simp)
    have y1 : V2.cell? ⟨w.heap.size + 1, 0, none⟩ = some (.int .i64 0) := (cell_of_row V2 _ 0 _ _ _ g1).trans (by simp)
    have z0 : V2.cell? ⟨w.heap.size + 2, 0, none⟩ = some (.int .i64 0) := (cell_of_row V2 _ 0 _ _ _ g2).trans (by simp)
    have z1 : V2.cell? ⟨w.heap.size + 2, 1, none⟩ = some (.int .i64 0) := (cell_of_row V2 _ 1 _ _ _ g2).trans (by simp)
    have z2 : V2.cell? ⟨w.heap.size + 2, 2, none⟩ = some (.int .i64 0) := (cell_of_row V2 _ 2 _ _ _ g2).trans (by simp)
    have y3 : V2.cell? ⟨w.heap.size + 3, 0, none⟩ = some (.int .i64 0) := (cell_of_row V2 _ 0 _ _ _ g3).trans (by simp)
    have f0 : V2.frozen? ⟨w.heap.size, 0, none⟩ = false := frozen_of_row V2 _ 0 _ _ g0
    have f1 : V2.frozen? ⟨w.heap.size + 1, 0, none⟩ = false := frozen_of_row V2 _ 0 _ _ g1
    have f20 : V2.frozen? ⟨w.heap.size + 2, 0, none⟩ = false := frozen_of_row V2 _ 0 _ _ g2
    have f21 : V2.frozen? ⟨w.heap.size + 2, 1, none⟩ = false := frozen_of_row V2 _ 1 _ _ g2
    have f22 : V2.frozen? ⟨w.heap.size + 2, 2, none⟩ = false := frozen_of_row V2 _ 2 _ _ g2
    have f3 : V2.frozen? ⟨w.heap.size + 3, 0, none⟩ = false := frozen_of_row V2 _ 0 _ _ g3
    have hsucc := tot_take_succ ps pre.length _ hq
    have hd6 : d ≤ 1000000 := by omega
    have HD := Lib.hid hd
    have HQ := Lib.hid hq
    have HS := Lib.hid hsucc
    have HB := Lib.hid hB
    have HG := Lib.hid (And.intro g0 (And.intro g1 (And.intro g2 g3)))
    have HBX := Lib.hid hBx
    clear hd hq hsucc hB g0 g1 g2 g3 gx hBx
    by_cases hdq : d < qz
    · gi_wp2
      gi_region
      all_goals gi_wp2
      all_goals
        obtain ⟨g0, g1, g2, g3⟩ := HG.out
        have hfd := found_in HQ.out hle (by have := HD.out; show off - tot (ps.take pre.length) < qz; omega)
        rw [← HD.out] at hfd
        obtain ⟨⟨r1, r2, r3⟩, -⟩ := find_stop w V2 w.heap.size ps off pre.length d ⟨qb, qs, qz⟩ g1 g2 g3 HB.out hfd Wi.heap.size (Wi.heap.size + 2 + 4) (by omega) hsz2 _ rfl
        exact ⟨r1, rfl, r2, r3⟩
    · have hdz : (d : Int) - (qz : Int) = ((off - tot (ps.take (pre ++ [(pre.length, (⟨qb, qs, qz⟩ : Pc))]).length) : Nat) : Int) := by
        rw [List.length_append, List.length_singleton, HS.out]; have := HD.out; show _ = ((off - (tot (ps.take pre.length) + qz) : Nat) : Int); omega
      have hle2 : tot (ps.take (pre ++ [(pre.length, (⟨qb, qs, qz⟩ : Pc))]).length) ≤ off := by
        rw [List.length_append, List.length_singleton, HS.out]; have := HD.out; show tot (ps.take pre.length) + qz ≤ off; omega
      have HZ := Lib.hid (And.intro hdz hle2)
      clear hdz hle2
      gi_wp2
      obtain ⟨g0, g1, g2, g3⟩ := HG.out
      refine ⟨(Keep.refl _ _ _).setCell (.inl (by show w.heap.size < _; omega)) _, (Fr.refl _ _).setCell (fun _ => .inl (by show w.heap.size ≤ w.heap.size ∧ w.heap.size < w.heap.size + 4; omega)) _, HB.out.setCell (p := ⟨w.heap.size, 0, none⟩) (Nat.le_refl _) _, ?_, ?_, ?_, ?_, ?_⟩
      · have := heap_setCell_same V2 w.heap.size 0 _ _ (.int .i64 ((d : Int) - (qz : Int))) g0
        refine Eq.trans this ?_
        rw [HZ.out.1]
        simp
      · exact (heap_setCell_other V2 ⟨w.heap.size, 0, none⟩ _ _ (by show w.heap.size + 1 ≠ w.heap.size; omega)).trans g1
      · exact (heap_setCell_other V2 ⟨w.heap.size, 0, none⟩ _ _ (by show w.heap.size + 2 ≠ w.heap.size; omega)).trans g2
      · exact (heap_setCell_other V2 ⟨w.heap.size, 0, none⟩ _ _ (by show w.heap.size + 3 ≠ w.heap.size; omega)).trans g3
      · have := HZ.out.2; rw [List.length_append, List.length_singleton] at this ⊢; exact this
  case done =>
    rintro D V hD ⟨hB, g0, g1, g2, g3, hle⟩ hk
    rw [List.length_map, List.length_range] at hle
    have hlen := VecP.len_any base p r _ _ V (HH.out.vec.fr (Fr.ofBelow hB (fun _ => False)) (by simp) (by simp))
    have k2' : V.cell? ⟨t, 2, none⟩ = some (.pointer (some ⟨p, 0, none⟩)) := (hB.cell hlt).trans k2
    have hVs : w.heap.size + 6 ≤ V.heap.size ∧ D < V.heap.size := ⟨by
      have := (Array.getElem?_eq_some_iff.1 hk).1; omega, (Array.getElem?_eq_some_iff.1 hk).1⟩
    have y1 : V.cell? ⟨w.heap.size + 1, 0, none⟩ = some (.int .i64 0) := (cell_of_row V _ 0 _ _ _ g1).trans (by simp)
    have z0 : V.cell? ⟨w.heap.size + 2, 0, none⟩ = some (.int .i64 0) := (cell_of_row V _ 0 _ _ _ g2).trans (by simp)
    have z1 : V.cell? ⟨w.heap.size + 2, 1, none⟩ = some (.int .i64 0) := (cell_of_row V _ 1 _ _ _ g2).trans (by simp)
    have z2 : V.cell? ⟨w.heap.size + 2, 2, none⟩ = some (.int .i64 0) := (cell_of_row V _ 2 _ _ _ g2).trans (by simp)
    have y3 : V.cell? ⟨w.heap.size + 3, 0, none⟩ = some (.int .i64 0) := (cell_of_row V _ 0 _ _ _ g3).trans (by simp)
    have f1 : V.frozen? ⟨w.heap.size + 1, 0, none⟩ = false := frozen_of_row V _ 0 _ _ g1
    have f20 : V.frozen? ⟨w.heap.size + 2, 0, none⟩ = false := frozen_of_row V _ 0 _ _ g2
    have f21 : V.frozen? ⟨w.heap.size + 2, 1, none⟩ = false := frozen_of_row V _ 1 _ _ g2
    have f22 : V.frozen? ⟨w.heap.size + 2, 2, none⟩ = false := frozen_of_row V _ 2 _ _ g2
    have f3 : V.frozen? ⟨w.heap.size + 3, 0, none⟩ = false := frozen_of_row V _ 0 _ _ g3
    have HK := Lib.hid hk
    have HB := Lib.hid hB
    have HL := Lib.hid hlen
    have HG := Lib.hid (And.intro g0 (And.intro g1 (And.intro g2 g3)))
    clear g0 g1 g2 g3 hB hk hlen k2
    gi_wp2_with (refine ⟨trivial, ?_⟩; gi_at_call 64; refine (callsIn_wide.2 HL.out).mono ?_; rintro e w' ⟨rfl, rfl⟩)
    obtain ⟨g0, g1, g2, g3⟩ := HG.out
    obtain ⟨-, hbw, hout⟩ := find_stop w V w.heap.size ps off ps.length 0 ⟨0, 0, 0⟩ g1 g2 g3 HB.out (found_end hle (by have := HO.out; omega)) (w.heap.size + 4) 0 (Nat.le_refl _) (Nat.zero_le _) _ rfl
    refine name_post ?_
    intro W0 hW0
    have hW0' : W0 = ((((V.setCell ⟨w.heap.size + 1, 0, none⟩ (.int .i64 (ps.length : Nat))).setCell ⟨w.heap.size + 1 + 1, 0, none⟩ (.int .i64 (0 : Nat))).setCell ⟨w.heap.size + 1 + 1, 1, none⟩ (.int .i64 (0 : Nat))).setCell ⟨w.heap.size + 1 + 1, 2, none⟩ (.int .i64 (0 : Nat))).setCell ⟨w.heap.size + 1 + 1 + 1, 0, none⟩ (.int .i64 (0 : Nat)) := hW0
    have hk0 : W0.heap[D]? = some (.deferred (some [])) := by
      rw [hW0]
      rw [heap_setCell_other _ _ _ _ (by show D ≠ w.heap.size + 1 + 1 + 1; omega), heap_setCell_other _ _ _ _ (by show D ≠ w.heap.size + 1 + 1; omega), heap_setCell_other _ _ _ _ (by show D ≠ w.heap.size + 1 + 1; omega), heap_setCell_other _ _ _ _ (by show D ≠ w.heap.size + 1 + 1; omega), heap_setCell_other _ _ _ _ (by show D ≠ w.heap.size + 1; omega)]
      exact HK.out
    replace hbw : Below w.heap.size w W0 := by rw [hW0']; exact hbw
    replace hout : FindOut w.heap.size ps off W0 := by rw [hW0']; exact hout
    clear hW0 hW0'
    refine ⟨by simp, .inl ⟨_, _, rfl, run_takeDeferred hk0, ?_⟩⟩
    have hD : w.heap.size + 4 ≤ D := by omega
    replace hout := hout.put hD (.deferred none)
    have hbel : Below w.heap.size w (W0.putObj D (.deferred none)) := hbw.grown (grownBy_putObj' _ D _) hbw.size (fun k e => by cases e; omega)
    obtain ⟨W, hW⟩ : ∃ W, W = W0.putObj D (.deferred none) := ⟨_, rfl⟩
    rw [← hW] at hout hbel ⊢
    obtain ⟨i, q, left, r1, r2, r3, hf⟩ := hout
    have c1 : W.cell? ⟨w.heap.size + 1, 0, none⟩ = some (.int .i64 i) := (cell_of_row _ _ 0 _ _ _ r1).trans (by simp)
    have c20 : W.cell? ⟨w.heap.size + 1 + 1, 0, none⟩ = some (.int .i64 q.b) := (cell_of_row _ _ 0 _ _ _ r2).trans (by simp)
    have c21 : W.cell? ⟨w.heap.size + 1 + 1, 1, none⟩ = some (.int .i64 q.s) := (cell_of_row _ _ 1 _ _ _ r2).trans (by simp)
    have c22 : W.cell? ⟨w.heap.size + 1 + 1, 2, none⟩ = some (.int .i64 q.z) := (cell_of_row _ _ 2 _ _ _ r2).trans (by simp)
    have c3 : W.cell? ⟨w.heap.size + 1 + 1 + 1, 0, none⟩ = some (.int .i64 left) := (cell_of_row _ _ 0 _ _ _ r3).trans (by simp)
    refine ⟨.tuple #[.int .i64 i, .agg #[.int .i64 q.b, .int .i64 q.s, .int .i64 q.z], .int .i64 left], ?_, ⟨i, q, left, rfl, hf⟩, hbel⟩
    simp [results, Tryz.results92, go_sem, c1, c20, c21, c22, c3]
  case stop =>
    rintro D c pre V hD hpre hne ⟨rfl, hB, hout⟩ hk
    have HK := Lib.hid hk
    have HB := Lib.hid hB
    have HG := Lib.hid hout
    clear hout hB hk k2
    gi_wp2
    refine ⟨by simp, .inl ⟨_, _, rfl, run_takeDeferred HK.out, ?_⟩⟩
    have hD : w.heap.size + 4 ≤ D := by omega
    have hout := HG.out.put hD (.deferred none)
    have hbel : Below w.heap.size w (V.putObj D (.deferred none)) := HB.out.grown (grownBy_putObj' _ D _) HB.out.size (fun k e => by cases e; omega)
    obtain ⟨W, hW⟩ : ∃ W, W = V.putObj D (.deferred none) := ⟨_, rfl⟩
    rw [← hW] at hout hbel ⊢
    obtain ⟨i, q, left, r1, r2, r3, hf⟩ := hout
    have c1 : W.cell? ⟨w.heap.size + 1, 0, none⟩ = some (.int .i64 i) := (cell_of_row _ _ 0 _ _ _ r1).trans (by simp)
    have c20 : W.cell? ⟨w.heap.size + 1 + 1, 0, none⟩ = some (.int .i64 q.b) := (cell_of_row _ _ 0 _ _ _ r2).trans (by simp)
    have c21 : W.cell? ⟨w.heap.size + 1 + 1, 1, none⟩ = some (.int .i64 q.s) := (cell_of_row _ _ 1 _ _ _ r2).trans (by simp)
    have c22 : W.cell? ⟨w.heap.size + 1 + 1, 2, none⟩ = some (.int .i64 q.z) := (cell_of_row _ _ 2 _ _ _ r2).trans (by simp)
    have c3 : W.cell? ⟨w.heap.size + 1 + 1 + 1, 0, none⟩ = some (.int .i64 left) := (cell_of_row _ _ 0 _ _ _ r3).trans (by simp)
    refine ⟨.tuple #[.int .i64 i, .agg #[.int .i64 q.b, .int .i64 q.s, .int .i64 q.z], .int .i64 left], ?_, ⟨i, q, left, rfl, hf⟩, hbel⟩
    simp [results, Tryz.results92, go_sem, c1, c20, c21, c22, c3]
end
end Go.Proofs.YtfllgmgipmmpkaaGreatDoor.Tb
