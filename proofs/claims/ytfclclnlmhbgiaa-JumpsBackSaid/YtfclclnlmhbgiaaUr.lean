/-
  Package jumps: the list of places in memory; its replace, at both functions that it is handed.
-/
import Derived.Test.YtfclclnlmhbgiaaUf
import Derived.Test.YtfclclnlmhbgiaaUi
import Derived.Test.YtfclclnlmhbgiaaUd
import Derived.Test.YtfclclnlmhbgiaaUw
import Derived.Test.YtfclclnlmhbgiaaUk
import Derived.Test.YtfclclnlmhbgiaaRnd
import Derived.Deep.CutRange
set_option linter.unusedVariables false
set_option linter.unusedSimpArgs false
set_option maxRecDepth 100000
namespace Go.Proofs.Ytfclclnlmhbgiaa.Jp
open Go Go.RowKit Go.Proofs.Ytfclclnlmhbgiaa.Vk Go.Proofs.Ytfclclnlmhbgiaa.Str Go.Proofs.Ytfclclnlmhbgiaa.Ln Go.Proofs.Ytfclclnlmhbgiaa.Cl Go.Proofs.Ytfclclnlmhbgiaa.Ml Go.Proofs.Ytfclclnlmhbgiaa.Mk Go.Shelf
attribute [local go_sem] Oper.semAt_some

abbrev LT : TypeId := 51
abbrev VE : TypeId := VecQ.E
abbrev VT : TypeId := VecQ.TV
/-- The list at l: its vec at p, with its row r; the index. -/
def Lst (w : World) (B l p : Nat) (r : Option Nat) (ps : List P2) (at' : Nat) : Prop :=
  w.heap[l]? = some (.cells #[.pointer (some ⟨p, 0, none⟩), .int .i64 at'] LT (0, 0)) ∧ IsVec w B VT VE 2 p r ps.length (Ps.flat ps) ∧ l ≠ p ∧ r ≠ some l
/-- What replace has made before its loop: a list of its own at P, variables for it, for the index; ahead of them the two it was handed. -/
structure Mid (w : World) (P A D l at' : Nat) (fv : Value) (wx : World) : Prop where
  bel : Below w.heap.size w wx
  nP : w.heap.size + 2 ≤ P
  nA : w.heap.size + 2 ≤ A
  nD : w.heap.size + 2 ≤ D
  PA : P ≠ A
  PD : P ≠ D
  AD : A ≠ D
  vl : wx.heap[w.heap.size]? = some (.cells #[.pointer (some ⟨l, 0, none⟩)] 24 (0, 0))
  vf : wx.heap[w.heap.size + 1]? = some (.cells #[fv] 53 (0, 0))
  vP : wx.heap[P]? = some (.cells #[.slice none 0 0] VT (0, 0))
  vA : wx.heap[A]? = some (.cells #[.pointer (some ⟨P, 0, none⟩)] 48 (0, 0))
  vD : wx.heap[D]? = some (.cells #[.int .i64 at'] 3 (0, 0))

theorem frK {S : Nat → Prop} {B : Nat} {w : World} (hB : B ≤ w.heap.size) : ∀ (V : World) (l : Nat) (o o' : Obj), w.heap.size ≤ l → V.heap[l]? = some o → o.isCells = false → o.isWalk = false → Fr (fun k => S k ∨ B ≤ k) V (V.putObj l o') :=
  fun V l o o' hl ho _ _ => Fr.grown (Fr.refl _ V) (grownBy_putObj' V l o') (fun k e _ => by cases e; exact .inr (by omega))
theorem range_at {α : Type} (f : Nat → α) (n : Nat) (pre : List α) (x : α) (rest : List α) (h : (List.range n).map f = pre ++ x :: rest) : pre.length < n ∧ x = f pre.length := by
  have hl : ((List.range n).map f).length = (pre ++ x :: rest).length := by rw [h]
  simp at hl
  have hlt : pre.length < n := by omega
  refine ⟨hlt, ?_⟩
  have h1 : ((List.range n).map f)[pre.length]? = (pre ++ x :: rest)[pre.length]? := by rw [h]
  rw [List.getElem?_map, List.getElem?_append_right (Nat.le_refl _)] at h1
  simp [hlt] at h1
  exact h1.symm
theorem own_row_cells {w : World} {base : Nat} {e : TypeId} {size : Nat} {v : Value} {n : Nat} {xs : List Value} (h : w.ownsRow base e size v n xs) (g : Nat) (hg : v.ownBlock = some g) : ∃ cs, w.heap[g]? = some (.cells cs e (0, 0)) := by
  rcases h.2 with ⟨rfl, _⟩ | ⟨g', cap, cur, rfl, _, hh, _⟩
  · cases hg
  · simp only [Value.ownBlock, Option.some.injEq] at hg
    subst hg
    exact ⟨cur, hh⟩
theorem vec_cells {w : World} {base : Nat} {T E : TypeId} {size p : Nat} {r : Option Nat} {n : Nat} {xs : List Value} (h : IsVec w base T E size p r n xs) (g : Nat) (hg : r = some g) : ∃ cs, w.heap[g]? = some (.cells cs E (0, 0)) := by
  obtain ⟨b, c, h1, h2, h3, h4, h5⟩ := h
  exact own_row_cells h3 g (h4.trans hg)
/-- Between the rounds of replace: n places are behind. -/
structure Rp (w Wi : World) (P D lo : Nat) (f : P2 → Option P2) (ps : List P2) (at' n : Nat) (V : World) : Prop where
  fr : Fr (fun k => k = P ∨ k = D) Wi V
  vD : V.heap[D]? = some (.cells #[.int .i64 (ix f ps at' n : Nat)] 3 (0, 0))
  vec : ∃ r', IsVec V w.heap.size VT VE 2 P r' ((ps.take n).filterMap f).length (Ps.flat ((ps.take n).filterMap f)) ∧ ∀ k, r' = some k → lo ≤ k
theorem Rp.fr' {w Wi A V : World} {P D lo at' n : Nat} {f : P2 → Option P2} {ps : List P2} (h : Rp w Wi P D lo f ps at' n A) {T : Nat → Prop} (hf : Fr T A V) (hP : ¬ T P) (hD : ¬ T D) (hT : ∀ k, T k → Wi.heap.size ≤ k) (hr : ∀ k cs, A.heap[k]? = some (.cells cs VE (0, 0)) → lo ≤ k → ¬ T k) : Rp w Wi P D lo f ps at' n V := by
  obtain ⟨h1, h2, r', h3, h4⟩ := h
  refine ⟨h1.trans' hf (fun i hi ht => absurd (hT i ht) (by omega)), (hf.block D (Array.getElem?_eq_some_iff.1 h2).1 hD).trans h2, r', h3.fr hf hP (fun k hk => ?_), h4⟩
  obtain ⟨cs, hcs⟩ := vec_cells h3 k hk
  exact hr k cs hcs (h4 k hk)
theorem Rp.below {w Wi A V : World} {P D lo at' n : Nat} {f : P2 → Option P2} {ps : List P2} (h : Rp w Wi P D lo f ps at' n A) (hb : Below A.heap.size A V) : Rp w Wi P D lo f ps at' n V :=
  h.fr' (Fr.ofBelow hb (fun _ => False)) (fun h => h) (fun h => h) (fun _ h => h.elim) (fun _ _ _ _ h => h)
theorem Rp.grown {w Wi A V : World} {P D lo at' n : Nat} {f : P2 → Option P2} {ps : List P2} (h : Rp w Wi P D lo f ps at' n A) (hP : P < Wi.heap.size) (hD : D < Wi.heap.size) {row : Option Nat} (hg : A.grownBy V row) (hr : ∀ k, row = some k → Wi.heap.size ≤ k ∧ ∃ o : Obj, A.heap[k]? = some o ∧ o.isCells = false) : Rp w Wi P D lo f ps at' n V :=
  h.fr' (T := fun k => row = some k) (Fr.grown (Fr.refl _ A) hg (fun k e _ => e)) (fun e => by have := (hr _ e).1; omega) (fun e => by have := (hr _ e).1; omega) (fun k e => (hr k e).1)
    (fun k cs hcs _ e => by
      obtain ⟨_, o, ho, hc⟩ := hr k e
      rw [hcs] at ho
      injection ho with ho
      subst ho
      cases hc)
theorem name_post {Q : Exit → Act → World → Prop} {e : Exit} {a : Act} {W : World} (h : ∀ Wi, Wi = W → Q e a Wi) : Q e a W := h W rfl
theorem Rp.skip {w Wi A V : World} {P D lo at' n : Nat} {f : P2 → Option P2} {ps : List P2} (h : Rp w Wi P D lo f ps at' n A) (hF : Fr (fun k => k = D) A V) (hD : V.heap[D]? = some (.cells #[.int .i64 (ix f ps at' (n + 1) : Nat)] 3 (0, 0)))
    (hrep : (ps.take (n + 1)).filterMap f = (ps.take n).filterMap f) (hPD : P ≠ D) (hlo : D < lo) : Rp w Wi P D lo f ps at' (n + 1) V := by
  obtain ⟨h1, h2, r', h3, h4⟩ := h
  refine ⟨h1.trans' hF (fun i _ e => .inr e), hD, r', ?_, h4⟩
  rw [hrep]
  exact h3.fr hF hPD (fun k hk e => by have := h4 k hk; omega)
theorem Rp.add {w Wi A V : World} {P D lo at' n : Nat} {f : P2 → Option P2} {ps : List P2} (h : Rp w Wi P D lo f ps at' n A) {S : Nat → Prop} (hF : Fr S A V) (hS : ∀ k, S k → k = P ∨ lo ≤ k) (hix : ix f ps at' (n + 1) = ix f ps at' n) {v : P2}
    (hrep : (ps.take (n + 1)).filterMap f = (ps.take n).filterMap f ++ [v]) (hPD : P ≠ D) (hlo : D < lo) (hwl : Wi.heap.size ≤ lo) {r' : Option Nat} (hv : IsVec V w.heap.size VT VE 2 P r' (((ps.take n).filterMap f).length + 1) (Ps.flat ((ps.take n).filterMap f) ++ [.int .i64 v.1, .int .i64 v.2])) (hr : ∀ k, r' = some k → lo ≤ k) : Rp w Wi P D lo f ps at' (n + 1) V := by
  obtain ⟨h1, h2, -⟩ := h
  refine ⟨h1.trans' hF (fun i hi e => (hS i e).elim .inl (fun h => absurd h (by omega))), ?_, r', ?_, hr⟩
  · rw [hix]
    exact (hF.block D (Array.getElem?_eq_some_iff.1 h2).1 (fun e => by rcases hS D e with h | h <;> omega)).trans h2
  · rw [hrep, Ps.flat_append, List.length_append]
    exact hv

set_option maxHeartbeats 4000000 in
theorem replP (B l p : Nat) (r : Option Nat) (ps : List P2) (at' : Nat) (b : Nat) (x y : Int) (w : World) (h : Lst w B l p r ps at') (hn : ps.length ≤ 1000) (hat : at' ≤ ps.length) (hb : PosAt w b x y) :
    Calls Try.prog 19 #[.pointer (some ⟨l, 0, none⟩), .func (.func 20) #[] #[.pointer (some ⟨b, 0, none⟩)]] w fun e w' => e = .returned (.tuple #[]) ∧ ∃ p' r', Lst w' w.heap.size l p' r' (ps.filterMap (fP x)) ((ps.take at').filterMap (fP x)).length ∧ Fr (fun k => k = l) w w' := by
  obtain ⟨h1, hv, h2, h3⟩ := h
  have hl := (Array.getElem?_eq_some_iff.1 h1).1
  have hp := hv.lt.2
  have c0 := (cell_of_row w l 0 _ _ _ h1).trans (show _ = some (.pointer (some ⟨p, 0, none⟩)) by simp)
  have c1 := (cell_of_row w l 1 _ _ _ h1).trans (show _ = some (.int .i64 at') by simp)
  have H1 := Lib.hid h1
  have HV := Lib.hid hv
  clear h1 hv
  have hmx : Try.prog.follows .mixedOrders = true := by kernel_rfl
  refine (callsIn_wide (n := 9)).1 ?_
  refine callsIn_of_wp_marks Try.func19 rfl trivial ?_ rfl
  simp only [Try.ntmps19, List.size_toArray, List.length_cons, List.length_nil, Nat.reduceAdd, Nat.reduceSub, Array.replicate_succ, Array.replicate_zero, List.push_toArray, List.append_toArray, List.nil_append, List.cons_append]
  refine wpIn_mono (Q := noPanic _) ?_ (noPanic_out _)
  gi_wp2
  refine wpIn_mono (Q := Exit.then (fun a' wx => ∃ P A D : Nat, a' = { tmps := #[.pointer (some ⟨l, 0, none⟩), .func (.func 20) #[] #[.pointer (some ⟨b, 0, none⟩)], .pointer (some ⟨w.heap.size, 0, none⟩), .pointer (some ⟨w.heap.size + 1, 0, none⟩), .pointer (some ⟨A, 0, none⟩), .pointer (some ⟨D, 0, none⟩), undef, undef, undef, undef, .pointer (some ⟨P, 0, none⟩), .pointer (some ⟨l, 0, none⟩), .pointer (some ⟨l, 0, none⟩), .pointer (some ⟨l, 1, none⟩), .int .i64 at', undef, undef, undef, undef, undef, undef, undef, undef, undef, undef, undef, undef, undef, undef, undef, undef, undef, undef, undef, undef, undef, undef, undef, undef, undef, undef, undef, undef, undef, undef, undef, undef, undef, undef, undef, undef], defers := [] } ∧ Hid (Mid w P A D l at' (.func (.func 20) #[] #[.pointer (some ⟨b, 0, none⟩)]) wx)) (fun _ _ _ => False)) ?_ ?_
  · refine wpIn_wide.2 ?_
    obtain ⟨w1, hw1⟩ : ∃ v, v = (w.alloc (.cells #[.pointer (some ⟨l, 0, none⟩)] 24)).alloc (.cells #[.func (.func 20) #[] #[.pointer (some ⟨b, 0, none⟩)]] 53) := ⟨_, rfl⟩
    rw [← hw1]
    have hb1 : Below w.heap.size w w1 := by rw [hw1]; exact ((Below.refl _ w).alloc (Nat.le_refl _) _).alloc (by simp) _
    have s1 : w1.heap.size = w.heap.size + 2 := by rw [hw1]; simp
    have vl : w1.heap[w.heap.size]? = some (.cells #[.pointer (some ⟨l, 0, none⟩)] 24 (0, 0)) := by rw [hw1]; exact (Below.heap_alloc _ _ _ (by simp)).trans (heap_alloc_new w _)
    have vf : w1.heap[w.heap.size + 1]? = some (.cells #[.func (.func 20) #[] #[.pointer (some ⟨b, 0, none⟩)]] 53 (0, 0)) := by
      rw [hw1]
      have := heap_alloc_new (w.alloc (.cells #[.pointer (some ⟨l, 0, none⟩)] 24)) (.cells #[.func (.func 20) #[] #[.pointer (some ⟨b, 0, none⟩)]] 53)
      simpa using this
    have k0 := (cell_of_row w1 w.heap.size 0 _ _ _ vl).trans (show _ = some (.pointer (some ⟨l, 0, none⟩)) by rfl)
    have k1 := cell_later hb1 c1
    clear hw1
    have F_0 := fun (C : World → Prop) (hC : Vs.Grows (fun j => w1.heap.size ≤ j) w1 C) (z : Vs.In C) => hC.cell k0 (fun e => by simp only at e; omega) z
    have F_1 := fun (C : World → Prop) (hC : Vs.Grows (fun j => w1.heap.size ≤ j) w1 C) (z : Vs.In C) => hC.cell k1 (fun e => by simp only at e; omega) z
    refine Vs.wp_region_tree (S := fun j => w1.heap.size ≤ j) [] (.fork3 ([1, 2, 3, 4].map (fun i => (i, 0)) ++ []) 0 5 6 (.fork [] 5 6 (.path [(6, 1), (7, 1), (8, 1)]) (.path [(5, 1), (7, 1), (8, 1)])) (.fork [] 0 6 (.path [(6, 1), (7, 1), (8, 1)]) (.path [(0, 1), (7, 1), (8, 1)])) (.fork [] 0 5 (.path [(5, 1), (7, 1), (8, 1)]) (.path [(0, 1), (7, 1), (8, 1)]))) (by kernel_rfl) (by kernel_rfl) ?_
    refine Vs.wpTr_fork3 (Vs.wpPath_on [1, 2, 3, 4] 51 rfl (by kernel_rfl) ?_)
    simp only [List.map_cons, List.map_nil, Vs.opOf_succ, Vs.opOf_zero]
    apply Exists.intro
    refine ⟨fun C hC => ?_, ?_⟩
    · haveI hI := hC.one
      have f_0 := F_0 C hC
      have f_1 := F_1 C hC
      repeat (go_big_quiet_step (fail))
      exact wpQuiet_nil rfl
    clear F_0 F_1 k0 k1
    have hB : Below w1.heap.size w1 w1 := Below.refl _ _
    have hsu : w1.heap.size ≤ w1.heap.size := Nat.le_refl _
    intro u hu
    have hB := hB.trans (hu.mono hsu)
    have hsu := Nat.le_trans hsu hu.size
    clear hu
    refine ⟨?_, ?_, ?_⟩
    · intro u hu
      have hB := hB.trans (hu.mono hsu)
      have hsu := Nat.le_trans hsu hu.size
      clear hu
      refine Vs.fork_call (f := 18) (args := #[.slice none 0 0]) rfl rfl (by simp only [Vs.opOf_succ, Vs.opOf_zero]; go_simp) ?_
      refine (VecQ.new_nil u).mono ?_
      rintro e w' ⟨rfl, rfl⟩
      refine ⟨_, rfl, Fr.ofBelow ((Below.refl _ u).alloc (Nat.le_refl _) _) _, ?_⟩
      simp only [Vs.opOf_succ, Vs.opOf_zero, Act.put, List.setIfInBounds_toArray, List.set_cons_zero, List.set_cons_succ]
      have NP : (u.alloc (.cells #[.slice none 0 0] VT)).heap[u.heap.size]? = some (.cells #[.slice none 0 0] VT (0, 0)) := heap_alloc_new u _
      obtain ⟨v, hv⟩ : ∃ v, v = u.alloc (.cells #[.slice none 0 0] VT) := ⟨_, rfl⟩
      have hbv : Below u.heap.size u v := by rw [hv]; exact (Below.refl _ u).alloc (Nat.le_refl _) _
      obtain ⟨gP, hgP⟩ : ∃ g, g = u.heap.size := ⟨_, rfl⟩
      have LP : gP < v.heap.size := by rw [hgP, hv]; simp
      have GP : w1.heap.size ≤ gP := by rw [hgP]; exact hsu
      have hB := hB.trans (hbv.mono hsu)
      have hsu := Nat.le_trans hsu hbv.size
      rw [← hv, ← hgP] at NP
      rw [← hv, ← hgP]
      clear hv hbv hgP
      refine Vs.wpTr_fork ?_
      intro u hu
      have hB := hB.trans (hu.mono hsu)
      have hsu := Nat.le_trans hsu hu.size
      have NP := (hu.block _ LP).trans NP
      have LP := Nat.lt_of_lt_of_le LP hu.size
      clear hu
      refine ⟨?_, ?_⟩
      · intro u hu
        have hB := hB.trans (hu.mono hsu)
        have hsu := Nat.le_trans hsu hu.size
        have NP := (hu.block _ LP).trans NP
        have LP := Nat.lt_of_lt_of_le LP hu.size
        clear hu
        refine Vs.fork_make (W' := u.alloc (.cells #[.pointer none] 48)) (u := .pointer (some ⟨u.heap.size, 0, none⟩)) rfl rfl (by simp only [Vs.opOf_succ, Vs.opOf_zero]; go_simp) ?_
        refine ⟨Fr.ofBelow ((Below.refl _ u).alloc (Nat.le_refl _) _) _, ?_⟩
        simp only [Vs.opOf_succ, Vs.opOf_zero, Act.put, List.setIfInBounds_toArray, List.set_cons_zero, List.set_cons_succ]
        have NA : (u.alloc (.cells #[.pointer none] 48)).heap[u.heap.size]? = some (.cells #[.pointer none] 48 (0, 0)) := heap_alloc_new u _
        obtain ⟨v, hv⟩ : ∃ v, v = u.alloc (.cells #[.pointer none] 48) := ⟨_, rfl⟩
        have hbv : Below u.heap.size u v := by rw [hv]; exact (Below.refl _ u).alloc (Nat.le_refl _) _
        obtain ⟨gA, hgA⟩ : ∃ g, g = u.heap.size := ⟨_, rfl⟩
        have LA : gA < v.heap.size := by rw [hgA, hv]; simp
        have GA : w1.heap.size ≤ gA := by rw [hgA]; exact hsu
        have NP := (hbv.block _ LP).trans NP
        have EPA : gP ≠ gA := by omega
        have LP := Nat.lt_of_lt_of_le LP hbv.size
        have hB := hB.trans (hbv.mono hsu)
        have hsu := Nat.le_trans hsu hbv.size
        rw [← hv, ← hgA] at NA
        rw [← hv, ← hgA]
        clear hv hbv hgA
        refine Vs.wpTr_path ?_
        refine Vs.wpPath_make rfl ?_
        intro u hu
        have hB := hB.trans (hu.mono hsu)
        have hsu := Nat.le_trans hsu hu.size
        have NP := (hu.block _ LP).trans NP
        have LP := Nat.lt_of_lt_of_le LP hu.size
        have NA := (hu.block _ LA).trans NA
        have LA := Nat.lt_of_lt_of_le LA hu.size
        clear hu
        refine ⟨.pointer (some ⟨u.heap.size, 0, none⟩), u.alloc (.cells #[.int .i64 0] 3), rfl, by simp only [Vs.opOf_succ, Vs.opOf_zero]; go_simp, Fr.ofBelow ((Below.refl _ u).alloc (Nat.le_refl _) _) _, ?_⟩
        simp only [Vs.opOf_succ, Vs.opOf_zero, Act.put, List.setIfInBounds_toArray, List.set_cons_zero, List.set_cons_succ]
        have ND : (u.alloc (.cells #[.int .i64 0] 3)).heap[u.heap.size]? = some (.cells #[.int .i64 0] 3 (0, 0)) := heap_alloc_new u _
        obtain ⟨v, hv⟩ : ∃ v, v = u.alloc (.cells #[.int .i64 0] 3) := ⟨_, rfl⟩
        have hbv : Below u.heap.size u v := by rw [hv]; exact (Below.refl _ u).alloc (Nat.le_refl _) _
        obtain ⟨gD, hgD⟩ : ∃ g, g = u.heap.size := ⟨_, rfl⟩
        have LD : gD < v.heap.size := by rw [hgD, hv]; simp
        have GD : w1.heap.size ≤ gD := by rw [hgD]; exact hsu
        have NP := (hbv.block _ LP).trans NP
        have EPD : gP ≠ gD := by omega
        have LP := Nat.lt_of_lt_of_le LP hbv.size
        have NA := (hbv.block _ LA).trans NA
        have EAD : gA ≠ gD := by omega
        have LA := Nat.lt_of_lt_of_le LA hbv.size
        have hB := hB.trans (hbv.mono hsu)
        have hsu := Nat.le_trans hsu hbv.size
        rw [← hv, ← hgD] at ND
        rw [← hv, ← hgD]
        clear hv hbv hgD
        refine Vs.wpPath_put rfl ?_
        intro u hu
        have hB := hB.trans (hu.mono hsu)
        have hsu := Nat.le_trans hsu hu.size
        have NP := (hu.block _ LP).trans NP
        have LP := Nat.lt_of_lt_of_le LP hu.size
        have NA := (hu.block _ LA).trans NA
        have LA := Nat.lt_of_lt_of_le LA hu.size
        have ND := (hu.block _ LD).trans ND
        have LD := Nat.lt_of_lt_of_le LD hu.size
        clear hu
        have c0 := (cell_of_row u gA 0 _ _ _ NA).trans (by rfl)
        have cz := frozen_of_row u gA 0 _ _ NA
        refine ⟨u.setCell ⟨gA, 0, none⟩ (.pointer (some ⟨gP, 0, none⟩)), rfl, by simp only [Vs.opOf_succ, Vs.opOf_zero]; go_simp, (Fr.refl _ u).setCell (fun _ => GA) _, ?_⟩
        simp only [Vs.opOf_succ, Vs.opOf_zero, Act.put, List.setIfInBounds_toArray, List.set_cons_zero, List.set_cons_succ]
        have NA := heap_setCell_same u gA 0 _ _ (.pointer (some ⟨gP, 0, none⟩)) NA
        have NP := (heap_setCell_other u ⟨gA, 0, none⟩ gP (.pointer (some ⟨gP, 0, none⟩)) (by show gP ≠ gA; omega)).trans NP
        have ND := (heap_setCell_other u ⟨gA, 0, none⟩ gD (.pointer (some ⟨gP, 0, none⟩)) (by show gD ≠ gA; omega)).trans ND
        have LP : gP < (u.setCell ⟨gA, 0, none⟩ (.pointer (some ⟨gP, 0, none⟩))).heap.size := by simpa [World.setCell] using LP
        have LA : gA < (u.setCell ⟨gA, 0, none⟩ (.pointer (some ⟨gP, 0, none⟩))).heap.size := by simpa [World.setCell] using LA
        have LD : gD < (u.setCell ⟨gA, 0, none⟩ (.pointer (some ⟨gP, 0, none⟩))).heap.size := by simpa [World.setCell] using LD
        have hB := hB.setCell (p := ⟨gA, 0, none⟩) GA (.pointer (some ⟨gP, 0, none⟩))
        have hsu : w1.heap.size ≤ (u.setCell ⟨gA, 0, none⟩ (.pointer (some ⟨gP, 0, none⟩))).heap.size := by simpa [World.setCell] using hsu
        obtain ⟨v, hv⟩ : ∃ v, v = u.setCell ⟨gA, 0, none⟩ (.pointer (some ⟨gP, 0, none⟩)) := ⟨_, rfl⟩
        rw [← hv] at hB hsu NP NA ND LP LA LD ⊢
        clear hv c0 cz
        refine Vs.wpPath_put rfl ?_
        intro u hu
        have hB := hB.trans (hu.mono hsu)
        have hsu := Nat.le_trans hsu hu.size
        have NP := (hu.block _ LP).trans NP
        have LP := Nat.lt_of_lt_of_le LP hu.size
        have NA := (hu.block _ LA).trans NA
        have LA := Nat.lt_of_lt_of_le LA hu.size
        have ND := (hu.block _ LD).trans ND
        have LD := Nat.lt_of_lt_of_le LD hu.size
        clear hu
        have c0 := (cell_of_row u gD 0 _ _ _ ND).trans (by rfl)
        have cz := frozen_of_row u gD 0 _ _ ND
        refine ⟨u.setCell ⟨gD, 0, none⟩ (.int .i64 at'), rfl, by simp only [Vs.opOf_succ, Vs.opOf_zero]; go_simp, (Fr.refl _ u).setCell (fun _ => GD) _, ?_⟩
        simp only [Vs.opOf_succ, Vs.opOf_zero, Act.put, List.setIfInBounds_toArray, List.set_cons_zero, List.set_cons_succ]
        have ND := heap_setCell_same u gD 0 _ _ (.int .i64 at') ND
        have NP := (heap_setCell_other u ⟨gD, 0, none⟩ gP (.int .i64 at') (by show gP ≠ gD; omega)).trans NP
        have NA := (heap_setCell_other u ⟨gD, 0, none⟩ gA (.int .i64 at') (by show gA ≠ gD; omega)).trans NA
        have LP : gP < (u.setCell ⟨gD, 0, none⟩ (.int .i64 at')).heap.size := by simpa [World.setCell] using LP
        have LA : gA < (u.setCell ⟨gD, 0, none⟩ (.int .i64 at')).heap.size := by simpa [World.setCell] using LA
        have LD : gD < (u.setCell ⟨gD, 0, none⟩ (.int .i64 at')).heap.size := by simpa [World.setCell] using LD
        have hB := hB.setCell (p := ⟨gD, 0, none⟩) GD (.int .i64 at')
        have hsu : w1.heap.size ≤ (u.setCell ⟨gD, 0, none⟩ (.int .i64 at')).heap.size := by simpa [World.setCell] using hsu
        obtain ⟨v, hv⟩ : ∃ v, v = u.setCell ⟨gD, 0, none⟩ (.int .i64 at') := ⟨_, rfl⟩
        rw [← hv] at hB hsu NP NA ND LP LA LD ⊢
        clear hv c0 cz
        refine Vs.wpPath_end ?_
        intro u hu
        have hB := hB.trans (hu.mono hsu)
        have hsu := Nat.le_trans hsu hu.size
        have NP := (hu.block _ LP).trans NP
        have LP := Nat.lt_of_lt_of_le LP hu.size
        have NA := (hu.block _ LA).trans NA
        have LA := Nat.lt_of_lt_of_le LA hu.size
        have ND := (hu.block _ LD).trans ND
        have LD := Nat.lt_of_lt_of_le LD hu.size
        clear hu
        exact ⟨gP, gA, gD, rfl, Lib.hid ⟨hb1.trans (hB.mono (by omega)), by omega, by omega, by omega, by omega, by omega, by omega, (hB.block _ (by omega)).trans vl, (hB.block _ (by omega)).trans vf, NP, NA, ND⟩⟩
      · intro u hu
        have hB := hB.trans (hu.mono hsu)
        have hsu := Nat.le_trans hsu hu.size
        have NP := (hu.block _ LP).trans NP
        have LP := Nat.lt_of_lt_of_le LP hu.size
        clear hu
        refine Vs.fork_make (W' := u.alloc (.cells #[.int .i64 0] 3)) (u := .pointer (some ⟨u.heap.size, 0, none⟩)) rfl rfl (by simp only [Vs.opOf_succ, Vs.opOf_zero]; go_simp) ?_
        refine ⟨Fr.ofBelow ((Below.refl _ u).alloc (Nat.le_refl _) _) _, ?_⟩
        simp only [Vs.opOf_succ, Vs.opOf_zero, Act.put, List.setIfInBounds_toArray, List.set_cons_zero, List.set_cons_succ]
        have ND : (u.alloc (.cells #[.int .i64 0] 3)).heap[u.heap.size]? = some (.cells #[.int .i64 0] 3 (0, 0)) := heap_alloc_new u _
        obtain ⟨v, hv⟩ : ∃ v, v = u.alloc (.cells #[.int .i64 0] 3) := ⟨_, rfl⟩
        have hbv : Below u.heap.size u v := by rw [hv]; exact (Below.refl _ u).alloc (Nat.le_refl _) _
        obtain ⟨gD, hgD⟩ : ∃ g, g = u.heap.size := ⟨_, rfl⟩
        have LD : gD < v.heap.size := by rw [hgD, hv]; simp
        have GD : w1.heap.size ≤ gD := by rw [hgD]; exact hsu
        have NP := (hbv.block _ LP).trans NP
        have EPD : gP ≠ gD := by omega
        have LP := Nat.lt_of_lt_of_le LP hbv.size
        have hB := hB.trans (hbv.mono hsu)
        have hsu := Nat.le_trans hsu hbv.size
        rw [← hv, ← hgD] at ND
        rw [← hv, ← hgD]
        clear hv hbv hgD
        refine Vs.wpTr_path ?_
        refine Vs.wpPath_make rfl ?_
        intro u hu
        have hB := hB.trans (hu.mono hsu)
        have hsu := Nat.le_trans hsu hu.size
        have NP := (hu.block _ LP).trans NP
        have LP := Nat.lt_of_lt_of_le LP hu.size
        have ND := (hu.block _ LD).trans ND
        have LD := Nat.lt_of_lt_of_le LD hu.size
        clear hu
        refine ⟨.pointer (some ⟨u.heap.size, 0, none⟩), u.alloc (.cells #[.pointer none] 48), rfl, by simp only [Vs.opOf_succ, Vs.opOf_zero]; go_simp, Fr.ofBelow ((Below.refl _ u).alloc (Nat.le_refl _) _) _, ?_⟩
        simp only [Vs.opOf_succ, Vs.opOf_zero, Act.put, List.setIfInBounds_toArray, List.set_cons_zero, List.set_cons_succ]
        have NA : (u.alloc (.cells #[.pointer none] 48)).heap[u.heap.size]? = some (.cells #[.pointer none] 48 (0, 0)) := heap_alloc_new u _
        obtain ⟨v, hv⟩ : ∃ v, v = u.alloc (.cells #[.pointer none] 48) := ⟨_, rfl⟩
        have hbv : Below u.heap.size u v := by rw [hv]; exact (Below.refl _ u).alloc (Nat.le_refl _) _
        obtain ⟨gA, hgA⟩ : ∃ g, g = u.heap.size := ⟨_, rfl⟩
        have LA : gA < v.heap.size := by rw [hgA, hv]; simp
        have GA : w1.heap.size ≤ gA := by rw [hgA]; exact hsu
        have NP := (hbv.block _ LP).trans NP
        have EPA : gP ≠ gA := by omega
        have LP := Nat.lt_of_lt_of_le LP hbv.size
        have ND := (hbv.block _ LD).trans ND
        have EDA : gD ≠ gA := by omega
        have LD := Nat.lt_of_lt_of_le LD hbv.size
        have hB := hB.trans (hbv.mono hsu)
        have hsu := Nat.le_trans hsu hbv.size
        rw [← hv, ← hgA] at NA
        rw [← hv, ← hgA]
        clear hv hbv hgA
        refine Vs.wpPath_put rfl ?_
        intro u hu
        have hB := hB.trans (hu.mono hsu)
        have hsu := Nat.le_trans hsu hu.size
        have NP := (hu.block _ LP).trans NP
        have LP := Nat.lt_of_lt_of_le LP hu.size
        have ND := (hu.block _ LD).trans ND
        have LD := Nat.lt_of_lt_of_le LD hu.size
        have NA := (hu.block _ LA).trans NA
        have LA := Nat.lt_of_lt_of_le LA hu.size
        clear hu
        have c0 := (cell_of_row u gA 0 _ _ _ NA).trans (by rfl)
        have cz := frozen_of_row u gA 0 _ _ NA
        refine ⟨u.setCell ⟨gA, 0, none⟩ (.pointer (some ⟨gP, 0, none⟩)), rfl, by simp only [Vs.opOf_succ, Vs.opOf_zero]; go_simp, (Fr.refl _ u).setCell (fun _ => GA) _, ?_⟩
        simp only [Vs.opOf_succ, Vs.opOf_zero, Act.put, List.setIfInBounds_toArray, List.set_cons_zero, List.set_cons_succ]
        have NA := heap_setCell_same u gA 0 _ _ (.pointer (some ⟨gP, 0, none⟩)) NA
        have NP := (heap_setCell_other u ⟨gA, 0, none⟩ gP (.pointer (some ⟨gP, 0, none⟩)) (by show gP ≠ gA; omega)).trans NP
        have ND := (heap_setCell_other u ⟨gA, 0, none⟩ gD (.pointer (some ⟨gP, 0, none⟩)) (by show gD ≠ gA; omega)).trans ND
        have LP : gP < (u.setCell ⟨gA, 0, none⟩ (.pointer (some ⟨gP, 0, none⟩))).heap.size := by simpa [World.setCell] using LP
        have LD : gD < (u.setCell ⟨gA, 0, none⟩ (.pointer (some ⟨gP, 0, none⟩))).heap.size := by simpa [World.setCell] using LD
        have LA : gA < (u.setCell ⟨gA, 0, none⟩ (.pointer (some ⟨gP, 0, none⟩))).heap.size := by simpa [World.setCell] using LA
        have hB := hB.setCell (p := ⟨gA, 0, none⟩) GA (.pointer (some ⟨gP, 0, none⟩))
        have hsu : w1.heap.size ≤ (u.setCell ⟨gA, 0, none⟩ (.pointer (some ⟨gP, 0, none⟩))).heap.size := by simpa [World.setCell] using hsu
        obtain ⟨v, hv⟩ : ∃ v, v = u.setCell ⟨gA, 0, none⟩ (.pointer (some ⟨gP, 0, none⟩)) := ⟨_, rfl⟩
        rw [← hv] at hB hsu NP ND NA LP LD LA ⊢
        clear hv c0 cz
        refine Vs.wpPath_put rfl ?_
        intro u hu
        have hB := hB.trans (hu.mono hsu)
        have hsu := Nat.le_trans hsu hu.size
        have NP := (hu.block _ LP).trans NP
        have LP := Nat.lt_of_lt_of_le LP hu.size
        have ND := (hu.block _ LD).trans ND
        have LD := Nat.lt_of_lt_of_le LD hu.size
        have NA := (hu.block _ LA).trans NA
        have LA := Nat.lt_of_lt_of_le LA hu.size
        clear hu
        have c0 := (cell_of_row u gD 0 _ _ _ ND).trans (by rfl)
        have cz := frozen_of_row u gD 0 _ _ ND
        refine ⟨u.setCell ⟨gD, 0, none⟩ (.int .i64 at'), rfl, by simp only [Vs.opOf_succ, Vs.opOf_zero]; go_simp, (Fr.refl _ u).setCell (fun _ => GD) _, ?_⟩
        simp only [Vs.opOf_succ, Vs.opOf_zero, Act.put, List.setIfInBounds_toArray, List.set_cons_zero, List.set_cons_succ]
        have ND := heap_setCell_same u gD 0 _ _ (.int .i64 at') ND
        have NP := (heap_setCell_other u ⟨gD, 0, none⟩ gP (.int .i64 at') (by show gP ≠ gD; omega)).trans NP
        have NA := (heap_setCell_other u ⟨gD, 0, none⟩ gA (.int .i64 at') (by show gA ≠ gD; omega)).trans NA
        have LP : gP < (u.setCell ⟨gD, 0, none⟩ (.int .i64 at')).heap.size := by simpa [World.setCell] using LP
        have LD : gD < (u.setCell ⟨gD, 0, none⟩ (.int .i64 at')).heap.size := by simpa [World.setCell] using LD
        have LA : gA < (u.setCell ⟨gD, 0, none⟩ (.int .i64 at')).heap.size := by simpa [World.setCell] using LA
        have hB := hB.setCell (p := ⟨gD, 0, none⟩) GD (.int .i64 at')
        have hsu : w1.heap.size ≤ (u.setCell ⟨gD, 0, none⟩ (.int .i64 at')).heap.size := by simpa [World.setCell] using hsu
        obtain ⟨v, hv⟩ : ∃ v, v = u.setCell ⟨gD, 0, none⟩ (.int .i64 at') := ⟨_, rfl⟩
        rw [← hv] at hB hsu NP ND NA LP LD LA ⊢
        clear hv c0 cz
        refine Vs.wpPath_end ?_
        intro u hu
        have hB := hB.trans (hu.mono hsu)
        have hsu := Nat.le_trans hsu hu.size
        have NP := (hu.block _ LP).trans NP
        have LP := Nat.lt_of_lt_of_le LP hu.size
        have ND := (hu.block _ LD).trans ND
        have LD := Nat.lt_of_lt_of_le LD hu.size
        have NA := (hu.block _ LA).trans NA
        have LA := Nat.lt_of_lt_of_le LA hu.size
        clear hu
        exact ⟨gP, gA, gD, rfl, Lib.hid ⟨hb1.trans (hB.mono (by omega)), by omega, by omega, by omega, by omega, by omega, by omega, (hB.block _ (by omega)).trans vl, (hB.block _ (by omega)).trans vf, NP, NA, ND⟩⟩
    · intro u hu
      have hB := hB.trans (hu.mono hsu)
      have hsu := Nat.le_trans hsu hu.size
      clear hu
      refine Vs.fork_make (W' := u.alloc (.cells #[.pointer none] 48)) (u := .pointer (some ⟨u.heap.size, 0, none⟩)) rfl rfl (by simp only [Vs.opOf_succ, Vs.opOf_zero]; go_simp) ?_
      refine ⟨Fr.ofBelow ((Below.refl _ u).alloc (Nat.le_refl _) _) _, ?_⟩
      simp only [Vs.opOf_succ, Vs.opOf_zero, Act.put, List.setIfInBounds_toArray, List.set_cons_zero, List.set_cons_succ]
      have NA : (u.alloc (.cells #[.pointer none] 48)).heap[u.heap.size]? = some (.cells #[.pointer none] 48 (0, 0)) := heap_alloc_new u _
      obtain ⟨v, hv⟩ : ∃ v, v = u.alloc (.cells #[.pointer none] 48) := ⟨_, rfl⟩
      have hbv : Below u.heap.size u v := by rw [hv]; exact (Below.refl _ u).alloc (Nat.le_refl _) _
      obtain ⟨gA, hgA⟩ : ∃ g, g = u.heap.size := ⟨_, rfl⟩
      have LA : gA < v.heap.size := by rw [hgA, hv]; simp
      have GA : w1.heap.size ≤ gA := by rw [hgA]; exact hsu
      have hB := hB.trans (hbv.mono hsu)
      have hsu := Nat.le_trans hsu hbv.size
      rw [← hv, ← hgA] at NA
      rw [← hv, ← hgA]
      clear hv hbv hgA
      refine Vs.wpTr_fork ?_
      intro u hu
      have hB := hB.trans (hu.mono hsu)
      have hsu := Nat.le_trans hsu hu.size
      have NA := (hu.block _ LA).trans NA
      have LA := Nat.lt_of_lt_of_le LA hu.size
      clear hu
      refine ⟨?_, ?_⟩
      · intro u hu
        have hB := hB.trans (hu.mono hsu)
        have hsu := Nat.le_trans hsu hu.size
        have NA := (hu.block _ LA).trans NA
        have LA := Nat.lt_of_lt_of_le LA hu.size
        clear hu
        refine Vs.fork_call (f := 18) (args := #[.slice none 0 0]) rfl rfl (by simp only [Vs.opOf_succ, Vs.opOf_zero]; go_simp) ?_
        refine (VecQ.new_nil u).mono ?_
        rintro e w' ⟨rfl, rfl⟩
        refine ⟨_, rfl, Fr.ofBelow ((Below.refl _ u).alloc (Nat.le_refl _) _) _, ?_⟩
        simp only [Vs.opOf_succ, Vs.opOf_zero, Act.put, List.setIfInBounds_toArray, List.set_cons_zero, List.set_cons_succ]
        have NP : (u.alloc (.cells #[.slice none 0 0] VT)).heap[u.heap.size]? = some (.cells #[.slice none 0 0] VT (0, 0)) := heap_alloc_new u _
        obtain ⟨v, hv⟩ : ∃ v, v = u.alloc (.cells #[.slice none 0 0] VT) := ⟨_, rfl⟩
        have hbv : Below u.heap.size u v := by rw [hv]; exact (Below.refl _ u).alloc (Nat.le_refl _) _
        obtain ⟨gP, hgP⟩ : ∃ g, g = u.heap.size := ⟨_, rfl⟩
        have LP : gP < v.heap.size := by rw [hgP, hv]; simp
        have GP : w1.heap.size ≤ gP := by rw [hgP]; exact hsu
        have NA := (hbv.block _ LA).trans NA
        have EAP : gA ≠ gP := by omega
        have LA := Nat.lt_of_lt_of_le LA hbv.size
        have hB := hB.trans (hbv.mono hsu)
        have hsu := Nat.le_trans hsu hbv.size
        rw [← hv, ← hgP] at NP
        rw [← hv, ← hgP]
        clear hv hbv hgP
        refine Vs.wpTr_path ?_
        refine Vs.wpPath_make rfl ?_
        intro u hu
        have hB := hB.trans (hu.mono hsu)
        have hsu := Nat.le_trans hsu hu.size
        have NA := (hu.block _ LA).trans NA
        have LA := Nat.lt_of_lt_of_le LA hu.size
        have NP := (hu.block _ LP).trans NP
        have LP := Nat.lt_of_lt_of_le LP hu.size
        clear hu
        refine ⟨.pointer (some ⟨u.heap.size, 0, none⟩), u.alloc (.cells #[.int .i64 0] 3), rfl, by simp only [Vs.opOf_succ, Vs.opOf_zero]; go_simp, Fr.ofBelow ((Below.refl _ u).alloc (Nat.le_refl _) _) _, ?_⟩
        simp only [Vs.opOf_succ, Vs.opOf_zero, Act.put, List.setIfInBounds_toArray, List.set_cons_zero, List.set_cons_succ]
        have ND : (u.alloc (.cells #[.int .i64 0] 3)).heap[u.heap.size]? = some (.cells #[.int .i64 0] 3 (0, 0)) := heap_alloc_new u _
        obtain ⟨v, hv⟩ : ∃ v, v = u.alloc (.cells #[.int .i64 0] 3) := ⟨_, rfl⟩
        have hbv : Below u.heap.size u v := by rw [hv]; exact (Below.refl _ u).alloc (Nat.le_refl _) _
        obtain ⟨gD, hgD⟩ : ∃ g, g = u.heap.size := ⟨_, rfl⟩
        have LD : gD < v.heap.size := by rw [hgD, hv]; simp
        have GD : w1.heap.size ≤ gD := by rw [hgD]; exact hsu
        have NA := (hbv.block _ LA).trans NA
        have EAD : gA ≠ gD := by omega
        have LA := Nat.lt_of_lt_of_le LA hbv.size
        have NP := (hbv.block _ LP).trans NP
        have EPD : gP ≠ gD := by omega
        have LP := Nat.lt_of_lt_of_le LP hbv.size
        have hB := hB.trans (hbv.mono hsu)
        have hsu := Nat.le_trans hsu hbv.size
        rw [← hv, ← hgD] at ND
        rw [← hv, ← hgD]
        clear hv hbv hgD
        refine Vs.wpPath_put rfl ?_
        intro u hu
        have hB := hB.trans (hu.mono hsu)
        have hsu := Nat.le_trans hsu hu.size
        have NA := (hu.block _ LA).trans NA
        have LA := Nat.lt_of_lt_of_le LA hu.size
        have NP := (hu.block _ LP).trans NP
        have LP := Nat.lt_of_lt_of_le LP hu.size
        have ND := (hu.block _ LD).trans ND
        have LD := Nat.lt_of_lt_of_le LD hu.size
        clear hu
        have c0 := (cell_of_row u gA 0 _ _ _ NA).trans (by rfl)
        have cz := frozen_of_row u gA 0 _ _ NA
        refine ⟨u.setCell ⟨gA, 0, none⟩ (.pointer (some ⟨gP, 0, none⟩)), rfl, by simp only [Vs.opOf_succ, Vs.opOf_zero]; go_simp, (Fr.refl _ u).setCell (fun _ => GA) _, ?_⟩
        simp only [Vs.opOf_succ, Vs.opOf_zero, Act.put, List.setIfInBounds_toArray, List.set_cons_zero, List.set_cons_succ]
        have NA := heap_setCell_same u gA 0 _ _ (.pointer (some ⟨gP, 0, none⟩)) NA
        have NP := (heap_setCell_other u ⟨gA, 0, none⟩ gP (.pointer (some ⟨gP, 0, none⟩)) (by show gP ≠ gA; omega)).trans NP
        have ND := (heap_setCell_other u ⟨gA, 0, none⟩ gD (.pointer (some ⟨gP, 0, none⟩)) (by show gD ≠ gA; omega)).trans ND
        have LA : gA < (u.setCell ⟨gA, 0, none⟩ (.pointer (some ⟨gP, 0, none⟩))).heap.size := by simpa [World.setCell] using LA
        have LP : gP < (u.setCell ⟨gA, 0, none⟩ (.pointer (some ⟨gP, 0, none⟩))).heap.size := by simpa [World.setCell] using LP
        have LD : gD < (u.setCell ⟨gA, 0, none⟩ (.pointer (some ⟨gP, 0, none⟩))).heap.size := by simpa [World.setCell] using LD
        have hB := hB.setCell (p := ⟨gA, 0, none⟩) GA (.pointer (some ⟨gP, 0, none⟩))
        have hsu : w1.heap.size ≤ (u.setCell ⟨gA, 0, none⟩ (.pointer (some ⟨gP, 0, none⟩))).heap.size := by simpa [World.setCell] using hsu
        obtain ⟨v, hv⟩ : ∃ v, v = u.setCell ⟨gA, 0, none⟩ (.pointer (some ⟨gP, 0, none⟩)) := ⟨_, rfl⟩
        rw [← hv] at hB hsu NA NP ND LA LP LD ⊢
        clear hv c0 cz
        refine Vs.wpPath_put rfl ?_
        intro u hu
        have hB := hB.trans (hu.mono hsu)
        have hsu := Nat.le_trans hsu hu.size
        have NA := (hu.block _ LA).trans NA
        have LA := Nat.lt_of_lt_of_le LA hu.size
        have NP := (hu.block _ LP).trans NP
        have LP := Nat.lt_of_lt_of_le LP hu.size
        have ND := (hu.block _ LD).trans ND
        have LD := Nat.lt_of_lt_of_le LD hu.size
        clear hu
        have c0 := (cell_of_row u gD 0 _ _ _ ND).trans (by rfl)
        have cz := frozen_of_row u gD 0 _ _ ND
        refine ⟨u.setCell ⟨gD, 0, none⟩ (.int .i64 at'), rfl, by simp only [Vs.opOf_succ, Vs.opOf_zero]; go_simp, (Fr.refl _ u).setCell (fun _ => GD) _, ?_⟩
        simp only [Vs.opOf_succ, Vs.opOf_zero, Act.put, List.setIfInBounds_toArray, List.set_cons_zero, List.set_cons_succ]
        have ND := heap_setCell_same u gD 0 _ _ (.int .i64 at') ND
        have NA := (heap_setCell_other u ⟨gD, 0, none⟩ gA (.int .i64 at') (by show gA ≠ gD; omega)).trans NA
        have NP := (heap_setCell_other u ⟨gD, 0, none⟩ gP (.int .i64 at') (by show gP ≠ gD; omega)).trans NP
        have LA : gA < (u.setCell ⟨gD, 0, none⟩ (.int .i64 at')).heap.size := by simpa [World.setCell] using LA
        have LP : gP < (u.setCell ⟨gD, 0, none⟩ (.int .i64 at')).heap.size := by simpa [World.setCell] using LP
        have LD : gD < (u.setCell ⟨gD, 0, none⟩ (.int .i64 at')).heap.size := by simpa [World.setCell] using LD
        have hB := hB.setCell (p := ⟨gD, 0, none⟩) GD (.int .i64 at')
        have hsu : w1.heap.size ≤ (u.setCell ⟨gD, 0, none⟩ (.int .i64 at')).heap.size := by simpa [World.setCell] using hsu
        obtain ⟨v, hv⟩ : ∃ v, v = u.setCell ⟨gD, 0, none⟩ (.int .i64 at') := ⟨_, rfl⟩
        rw [← hv] at hB hsu NA NP ND LA LP LD ⊢
        clear hv c0 cz
        refine Vs.wpPath_end ?_
        intro u hu
        have hB := hB.trans (hu.mono hsu)
        have hsu := Nat.le_trans hsu hu.size
        have NA := (hu.block _ LA).trans NA
        have LA := Nat.lt_of_lt_of_le LA hu.size
        have NP := (hu.block _ LP).trans NP
        have LP := Nat.lt_of_lt_of_le LP hu.size
        have ND := (hu.block _ LD).trans ND
        have LD := Nat.lt_of_lt_of_le LD hu.size
        clear hu
        exact ⟨gP, gA, gD, rfl, Lib.hid ⟨hb1.trans (hB.mono (by omega)), by omega, by omega, by omega, by omega, by omega, by omega, (hB.block _ (by omega)).trans vl, (hB.block _ (by omega)).trans vf, NP, NA, ND⟩⟩
      · intro u hu
        have hB := hB.trans (hu.mono hsu)
        have hsu := Nat.le_trans hsu hu.size
        have NA := (hu.block _ LA).trans NA
        have LA := Nat.lt_of_lt_of_le LA hu.size
        clear hu
        refine Vs.fork_make (W' := u.alloc (.cells #[.int .i64 0] 3)) (u := .pointer (some ⟨u.heap.size, 0, none⟩)) rfl rfl (by simp only [Vs.opOf_succ, Vs.opOf_zero]; go_simp) ?_
        refine ⟨Fr.ofBelow ((Below.refl _ u).alloc (Nat.le_refl _) _) _, ?_⟩
        simp only [Vs.opOf_succ, Vs.opOf_zero, Act.put, List.setIfInBounds_toArray, List.set_cons_zero, List.set_cons_succ]
        have ND : (u.alloc (.cells #[.int .i64 0] 3)).heap[u.heap.size]? = some (.cells #[.int .i64 0] 3 (0, 0)) := heap_alloc_new u _
        obtain ⟨v, hv⟩ : ∃ v, v = u.alloc (.cells #[.int .i64 0] 3) := ⟨_, rfl⟩
        have hbv : Below u.heap.size u v := by rw [hv]; exact (Below.refl _ u).alloc (Nat.le_refl _) _
        obtain ⟨gD, hgD⟩ : ∃ g, g = u.heap.size := ⟨_, rfl⟩
        have LD : gD < v.heap.size := by rw [hgD, hv]; simp
        have GD : w1.heap.size ≤ gD := by rw [hgD]; exact hsu
        have NA := (hbv.block _ LA).trans NA
        have EAD : gA ≠ gD := by omega
        have LA := Nat.lt_of_lt_of_le LA hbv.size
        have hB := hB.trans (hbv.mono hsu)
        have hsu := Nat.le_trans hsu hbv.size
        rw [← hv, ← hgD] at ND
        rw [← hv, ← hgD]
        clear hv hbv hgD
        refine Vs.wpTr_path ?_
        refine Vs.wpPath_call (f := 18) (args := #[.slice none 0 0]) rfl rfl (fun W => by simp only [Vs.opOf_succ, Vs.opOf_zero]; go_simp) ?_
        intro u hu
        have hB := hB.trans (hu.mono hsu)
        have hsu := Nat.le_trans hsu hu.size
        have NA := (hu.block _ LA).trans NA
        have LA := Nat.lt_of_lt_of_le LA hu.size
        have ND := (hu.block _ LD).trans ND
        have LD := Nat.lt_of_lt_of_le LD hu.size
        clear hu
        refine (VecQ.new_nil u).mono ?_
        rintro e w' ⟨rfl, rfl⟩
        refine ⟨_, rfl, Fr.ofBelow ((Below.refl _ u).alloc (Nat.le_refl _) _) _, ?_⟩
        simp only [Vs.opOf_succ, Vs.opOf_zero, Act.put, List.setIfInBounds_toArray, List.set_cons_zero, List.set_cons_succ]
        have NP : (u.alloc (.cells #[.slice none 0 0] VT)).heap[u.heap.size]? = some (.cells #[.slice none 0 0] VT (0, 0)) := heap_alloc_new u _
        obtain ⟨v, hv⟩ : ∃ v, v = u.alloc (.cells #[.slice none 0 0] VT) := ⟨_, rfl⟩
        have hbv : Below u.heap.size u v := by rw [hv]; exact (Below.refl _ u).alloc (Nat.le_refl _) _
        obtain ⟨gP, hgP⟩ : ∃ g, g = u.heap.size := ⟨_, rfl⟩
        have LP : gP < v.heap.size := by rw [hgP, hv]; simp
        have GP : w1.heap.size ≤ gP := by rw [hgP]; exact hsu
        have NA := (hbv.block _ LA).trans NA
        have EAP : gA ≠ gP := by omega
        have LA := Nat.lt_of_lt_of_le LA hbv.size
        have ND := (hbv.block _ LD).trans ND
        have EDP : gD ≠ gP := by omega
        have LD := Nat.lt_of_lt_of_le LD hbv.size
        have hB := hB.trans (hbv.mono hsu)
        have hsu := Nat.le_trans hsu hbv.size
        rw [← hv, ← hgP] at NP
        rw [← hv, ← hgP]
        clear hv hbv hgP
        refine Vs.wpPath_put rfl ?_
        intro u hu
        have hB := hB.trans (hu.mono hsu)
        have hsu := Nat.le_trans hsu hu.size
        have NA := (hu.block _ LA).trans NA
        have LA := Nat.lt_of_lt_of_le LA hu.size
        have ND := (hu.block _ LD).trans ND
        have LD := Nat.lt_of_lt_of_le LD hu.size
        have NP := (hu.block _ LP).trans NP
        have LP := Nat.lt_of_lt_of_le LP hu.size
        clear hu
        have c0 := (cell_of_row u gA 0 _ _ _ NA).trans (by rfl)
        have cz := frozen_of_row u gA 0 _ _ NA
        refine ⟨u.setCell ⟨gA, 0, none⟩ (.pointer (some ⟨gP, 0, none⟩)), rfl, by simp only [Vs.opOf_succ, Vs.opOf_zero]; go_simp, (Fr.refl _ u).setCell (fun _ => GA) _, ?_⟩
        simp only [Vs.opOf_succ, Vs.opOf_zero, Act.put, List.setIfInBounds_toArray, List.set_cons_zero, List.set_cons_succ]
        have NA := heap_setCell_same u gA 0 _ _ (.pointer (some ⟨gP, 0, none⟩)) NA
        have ND := (heap_setCell_other u ⟨gA, 0, none⟩ gD (.pointer (some ⟨gP, 0, none⟩)) (by show gD ≠ gA; omega)).trans ND
        have NP := (heap_setCell_other u ⟨gA, 0, none⟩ gP (.pointer (some ⟨gP, 0, none⟩)) (by show gP ≠ gA; omega)).trans NP
        have LA : gA < (u.setCell ⟨gA, 0, none⟩ (.pointer (some ⟨gP, 0, none⟩))).heap.size := by simpa [World.setCell] using LA
        have LD : gD < (u.setCell ⟨gA, 0, none⟩ (.pointer (some ⟨gP, 0, none⟩))).heap.size := by simpa [World.setCell] using LD
        have LP : gP < (u.setCell ⟨gA, 0, none⟩ (.pointer (some ⟨gP, 0, none⟩))).heap.size := by simpa [World.setCell] using LP
        have hB := hB.setCell (p := ⟨gA, 0, none⟩) GA (.pointer (some ⟨gP, 0, none⟩))
        have hsu : w1.heap.size ≤ (u.setCell ⟨gA, 0, none⟩ (.pointer (some ⟨gP, 0, none⟩))).heap.size := by simpa [World.setCell] using hsu
        obtain ⟨v, hv⟩ : ∃ v, v = u.setCell ⟨gA, 0, none⟩ (.pointer (some ⟨gP, 0, none⟩)) := ⟨_, rfl⟩
        rw [← hv] at hB hsu NA ND NP LA LD LP ⊢
        clear hv c0 cz
        refine Vs.wpPath_put rfl ?_
        intro u hu
        have hB := hB.trans (hu.mono hsu)
        have hsu := Nat.le_trans hsu hu.size
        have NA := (hu.block _ LA).trans NA
        have LA := Nat.lt_of_lt_of_le LA hu.size
        have ND := (hu.block _ LD).trans ND
        have LD := Nat.lt_of_lt_of_le LD hu.size
        have NP := (hu.block _ LP).trans NP
        have LP := Nat.lt_of_lt_of_le LP hu.size
        clear hu
        have c0 := (cell_of_row u gD 0 _ _ _ ND).trans (by rfl)
        have cz := frozen_of_row u gD 0 _ _ ND
        refine ⟨u.setCell ⟨gD, 0, none⟩ (.int .i64 at'), rfl, by simp only [Vs.opOf_succ, Vs.opOf_zero]; go_simp, (Fr.refl _ u).setCell (fun _ => GD) _, ?_⟩
        simp only [Vs.opOf_succ, Vs.opOf_zero, Act.put, List.setIfInBounds_toArray, List.set_cons_zero, List.set_cons_succ]
        have ND := heap_setCell_same u gD 0 _ _ (.int .i64 at') ND
        have NA := (heap_setCell_other u ⟨gD, 0, none⟩ gA (.int .i64 at') (by show gA ≠ gD; omega)).trans NA
        have NP := (heap_setCell_other u ⟨gD, 0, none⟩ gP (.int .i64 at') (by show gP ≠ gD; omega)).trans NP
        have LA : gA < (u.setCell ⟨gD, 0, none⟩ (.int .i64 at')).heap.size := by simpa [World.setCell] using LA
        have LD : gD < (u.setCell ⟨gD, 0, none⟩ (.int .i64 at')).heap.size := by simpa [World.setCell] using LD
        have LP : gP < (u.setCell ⟨gD, 0, none⟩ (.int .i64 at')).heap.size := by simpa [World.setCell] using LP
        have hB := hB.setCell (p := ⟨gD, 0, none⟩) GD (.int .i64 at')
        have hsu : w1.heap.size ≤ (u.setCell ⟨gD, 0, none⟩ (.int .i64 at')).heap.size := by simpa [World.setCell] using hsu
        obtain ⟨v, hv⟩ : ∃ v, v = u.setCell ⟨gD, 0, none⟩ (.int .i64 at') := ⟨_, rfl⟩
        rw [← hv] at hB hsu NA ND NP LA LD LP ⊢
        clear hv c0 cz
        refine Vs.wpPath_end ?_
        intro u hu
        have hB := hB.trans (hu.mono hsu)
        have hsu := Nat.le_trans hsu hu.size
        have NA := (hu.block _ LA).trans NA
        have LA := Nat.lt_of_lt_of_le LA hu.size
        have ND := (hu.block _ LD).trans ND
        have LD := Nat.lt_of_lt_of_le LD hu.size
        have NP := (hu.block _ LP).trans NP
        have LP := Nat.lt_of_lt_of_le LP hu.size
        clear hu
        exact ⟨gP, gA, gD, rfl, Lib.hid ⟨hb1.trans (hB.mono (by omega)), by omega, by omega, by omega, by omega, by omega, by omega, (hB.block _ (by omega)).trans vl, (hB.block _ (by omega)).trans vf, NP, NA, ND⟩⟩
    · intro u hu
      have hB := hB.trans (hu.mono hsu)
      have hsu := Nat.le_trans hsu hu.size
      clear hu
      refine Vs.fork_make (W' := u.alloc (.cells #[.int .i64 0] 3)) (u := .pointer (some ⟨u.heap.size, 0, none⟩)) rfl rfl (by simp only [Vs.opOf_succ, Vs.opOf_zero]; go_simp) ?_
      refine ⟨Fr.ofBelow ((Below.refl _ u).alloc (Nat.le_refl _) _) _, ?_⟩
      simp only [Vs.opOf_succ, Vs.opOf_zero, Act.put, List.setIfInBounds_toArray, List.set_cons_zero, List.set_cons_succ]
      have ND : (u.alloc (.cells #[.int .i64 0] 3)).heap[u.heap.size]? = some (.cells #[.int .i64 0] 3 (0, 0)) := heap_alloc_new u _
      obtain ⟨v, hv⟩ : ∃ v, v = u.alloc (.cells #[.int .i64 0] 3) := ⟨_, rfl⟩
      have hbv : Below u.heap.size u v := by rw [hv]; exact (Below.refl _ u).alloc (Nat.le_refl _) _
      obtain ⟨gD, hgD⟩ : ∃ g, g = u.heap.size := ⟨_, rfl⟩
      have LD : gD < v.heap.size := by rw [hgD, hv]; simp
      have GD : w1.heap.size ≤ gD := by rw [hgD]; exact hsu
      have hB := hB.trans (hbv.mono hsu)
      have hsu := Nat.le_trans hsu hbv.size
      rw [← hv, ← hgD] at ND
      rw [← hv, ← hgD]
      clear hv hbv hgD
      refine Vs.wpTr_fork ?_
      intro u hu
      have hB := hB.trans (hu.mono hsu)
      have hsu := Nat.le_trans hsu hu.size
      have ND := (hu.block _ LD).trans ND
      have LD := Nat.lt_of_lt_of_le LD hu.size
      clear hu
      refine ⟨?_, ?_⟩
      · intro u hu
        have hB := hB.trans (hu.mono hsu)
        have hsu := Nat.le_trans hsu hu.size
        have ND := (hu.block _ LD).trans ND
        have LD := Nat.lt_of_lt_of_le LD hu.size
        clear hu
        refine Vs.fork_call (f := 18) (args := #[.slice none 0 0]) rfl rfl (by simp only [Vs.opOf_succ, Vs.opOf_zero]; go_simp) ?_
        refine (VecQ.new_nil u).mono ?_
        rintro e w' ⟨rfl, rfl⟩
        refine ⟨_, rfl, Fr.ofBelow ((Below.refl _ u).alloc (Nat.le_refl _) _) _, ?_⟩
        simp only [Vs.opOf_succ, Vs.opOf_zero, Act.put, List.setIfInBounds_toArray, List.set_cons_zero, List.set_cons_succ]
        have NP : (u.alloc (.cells #[.slice none 0 0] VT)).heap[u.heap.size]? = some (.cells #[.slice none 0 0] VT (0, 0)) := heap_alloc_new u _
        obtain ⟨v, hv⟩ : ∃ v, v = u.alloc (.cells #[.slice none 0 0] VT) := ⟨_, rfl⟩
        have hbv : Below u.heap.size u v := by rw [hv]; exact (Below.refl _ u).alloc (Nat.le_refl _) _
        obtain ⟨gP, hgP⟩ : ∃ g, g = u.heap.size := ⟨_, rfl⟩
        have LP : gP < v.heap.size := by rw [hgP, hv]; simp
        have GP : w1.heap.size ≤ gP := by rw [hgP]; exact hsu
        have ND := (hbv.block _ LD).trans ND
        have EDP : gD ≠ gP := by omega
        have LD := Nat.lt_of_lt_of_le LD hbv.size
        have hB := hB.trans (hbv.mono hsu)
        have hsu := Nat.le_trans hsu hbv.size
        rw [← hv, ← hgP] at NP
        rw [← hv, ← hgP]
        clear hv hbv hgP
        refine Vs.wpTr_path ?_
        refine Vs.wpPath_make rfl ?_
        intro u hu
        have hB := hB.trans (hu.mono hsu)
        have hsu := Nat.le_trans hsu hu.size
        have ND := (hu.block _ LD).trans ND
        have LD := Nat.lt_of_lt_of_le LD hu.size
        have NP := (hu.block _ LP).trans NP
        have LP := Nat.lt_of_lt_of_le LP hu.size
        clear hu
        refine ⟨.pointer (some ⟨u.heap.size, 0, none⟩), u.alloc (.cells #[.pointer none] 48), rfl, by simp only [Vs.opOf_succ, Vs.opOf_zero]; go_simp, Fr.ofBelow ((Below.refl _ u).alloc (Nat.le_refl _) _) _, ?_⟩
        simp only [Vs.opOf_succ, Vs.opOf_zero, Act.put, List.setIfInBounds_toArray, List.set_cons_zero, List.set_cons_succ]
        have NA : (u.alloc (.cells #[.pointer none] 48)).heap[u.heap.size]? = some (.cells #[.pointer none] 48 (0, 0)) := heap_alloc_new u _
        obtain ⟨v, hv⟩ : ∃ v, v = u.alloc (.cells #[.pointer none] 48) := ⟨_, rfl⟩
        have hbv : Below u.heap.size u v := by rw [hv]; exact (Below.refl _ u).alloc (Nat.le_refl _) _
        obtain ⟨gA, hgA⟩ : ∃ g, g = u.heap.size := ⟨_, rfl⟩
        have LA : gA < v.heap.size := by rw [hgA, hv]; simp
        have GA : w1.heap.size ≤ gA := by rw [hgA]; exact hsu
        have ND := (hbv.block _ LD).trans ND
        have EDA : gD ≠ gA := by omega
        have LD := Nat.lt_of_lt_of_le LD hbv.size
        have NP := (hbv.block _ LP).trans NP
        have EPA : gP ≠ gA := by omega
        have LP := Nat.lt_of_lt_of_le LP hbv.size
        have hB := hB.trans (hbv.mono hsu)
        have hsu := Nat.le_trans hsu hbv.size
        rw [← hv, ← hgA] at NA
        rw [← hv, ← hgA]
        clear hv hbv hgA
        refine Vs.wpPath_put rfl ?_
        intro u hu
        have hB := hB.trans (hu.mono hsu)
        have hsu := Nat.le_trans hsu hu.size
        have ND := (hu.block _ LD).trans ND
        have LD := Nat.lt_of_lt_of_le LD hu.size
        have NP := (hu.block _ LP).trans NP
        have LP := Nat.lt_of_lt_of_le LP hu.size
        have NA := (hu.block _ LA).trans NA
        have LA := Nat.lt_of_lt_of_le LA hu.size
        clear hu
        have c0 := (cell_of_row u gA 0 _ _ _ NA).trans (by rfl)
        have cz := frozen_of_row u gA 0 _ _ NA
        refine ⟨u.setCell ⟨gA, 0, none⟩ (.pointer (some ⟨gP, 0, none⟩)), rfl, by simp only [Vs.opOf_succ, Vs.opOf_zero]; go_simp, (Fr.refl _ u).setCell (fun _ => GA) _, ?_⟩
        simp only [Vs.opOf_succ, Vs.opOf_zero, Act.put, List.setIfInBounds_toArray, List.set_cons_zero, List.set_cons_succ]
        have NA := heap_setCell_same u gA 0 _ _ (.pointer (some ⟨gP, 0, none⟩)) NA
        have ND := (heap_setCell_other u ⟨gA, 0, none⟩ gD (.pointer (some ⟨gP, 0, none⟩)) (by show gD ≠ gA; omega)).trans ND
        have NP := (heap_setCell_other u ⟨gA, 0, none⟩ gP (.pointer (some ⟨gP, 0, none⟩)) (by show gP ≠ gA; omega)).trans NP
        have LD : gD < (u.setCell ⟨gA, 0, none⟩ (.pointer (some ⟨gP, 0, none⟩))).heap.size := by simpa [World.setCell] using LD
        have LP : gP < (u.setCell ⟨gA, 0, none⟩ (.pointer (some ⟨gP, 0, none⟩))).heap.size := by simpa [World.setCell] using LP
        have LA : gA < (u.setCell ⟨gA, 0, none⟩ (.pointer (some ⟨gP, 0, none⟩))).heap.size := by simpa [World.setCell] using LA
        have hB := hB.setCell (p := ⟨gA, 0, none⟩) GA (.pointer (some ⟨gP, 0, none⟩))
        have hsu : w1.heap.size ≤ (u.setCell ⟨gA, 0, none⟩ (.pointer (some ⟨gP, 0, none⟩))).heap.size := by simpa [World.setCell] using hsu
        obtain ⟨v, hv⟩ : ∃ v, v = u.setCell ⟨gA, 0, none⟩ (.pointer (some ⟨gP, 0, none⟩)) := ⟨_, rfl⟩
        rw [← hv] at hB hsu ND NP NA LD LP LA ⊢
        clear hv c0 cz
        refine Vs.wpPath_put rfl ?_
        intro u hu
        have hB := hB.trans (hu.mono hsu)
        have hsu := Nat.le_trans hsu hu.size
        have ND := (hu.block _ LD).trans ND
        have LD := Nat.lt_of_lt_of_le LD hu.size
        have NP := (hu.block _ LP).trans NP
        have LP := Nat.lt_of_lt_of_le LP hu.size
        have NA := (hu.block _ LA).trans NA
        have LA := Nat.lt_of_lt_of_le LA hu.size
        clear hu
        have c0 := (cell_of_row u gD 0 _ _ _ ND).trans (by rfl)
        have cz := frozen_of_row u gD 0 _ _ ND
        refine ⟨u.setCell ⟨gD, 0, none⟩ (.int .i64 at'), rfl, by simp only [Vs.opOf_succ, Vs.opOf_zero]; go_simp, (Fr.refl _ u).setCell (fun _ => GD) _, ?_⟩
        simp only [Vs.opOf_succ, Vs.opOf_zero, Act.put, List.setIfInBounds_toArray, List.set_cons_zero, List.set_cons_succ]
        have ND := heap_setCell_same u gD 0 _ _ (.int .i64 at') ND
        have NP := (heap_setCell_other u ⟨gD, 0, none⟩ gP (.int .i64 at') (by show gP ≠ gD; omega)).trans NP
        have NA := (heap_setCell_other u ⟨gD, 0, none⟩ gA (.int .i64 at') (by show gA ≠ gD; omega)).trans NA
        have LD : gD < (u.setCell ⟨gD, 0, none⟩ (.int .i64 at')).heap.size := by simpa [World.setCell] using LD
        have LP : gP < (u.setCell ⟨gD, 0, none⟩ (.int .i64 at')).heap.size := by simpa [World.setCell] using LP
        have LA : gA < (u.setCell ⟨gD, 0, none⟩ (.int .i64 at')).heap.size := by simpa [World.setCell] using LA
        have hB := hB.setCell (p := ⟨gD, 0, none⟩) GD (.int .i64 at')
        have hsu : w1.heap.size ≤ (u.setCell ⟨gD, 0, none⟩ (.int .i64 at')).heap.size := by simpa [World.setCell] using hsu
        obtain ⟨v, hv⟩ : ∃ v, v = u.setCell ⟨gD, 0, none⟩ (.int .i64 at') := ⟨_, rfl⟩
        rw [← hv] at hB hsu ND NP NA LD LP LA ⊢
        clear hv c0 cz
        refine Vs.wpPath_end ?_
        intro u hu
        have hB := hB.trans (hu.mono hsu)
        have hsu := Nat.le_trans hsu hu.size
        have ND := (hu.block _ LD).trans ND
        have LD := Nat.lt_of_lt_of_le LD hu.size
        have NP := (hu.block _ LP).trans NP
        have LP := Nat.lt_of_lt_of_le LP hu.size
        have NA := (hu.block _ LA).trans NA
        have LA := Nat.lt_of_lt_of_le LA hu.size
        clear hu
        exact ⟨gP, gA, gD, rfl, Lib.hid ⟨hb1.trans (hB.mono (by omega)), by omega, by omega, by omega, by omega, by omega, by omega, (hB.block _ (by omega)).trans vl, (hB.block _ (by omega)).trans vf, NP, NA, ND⟩⟩
      · intro u hu
        have hB := hB.trans (hu.mono hsu)
        have hsu := Nat.le_trans hsu hu.size
        have ND := (hu.block _ LD).trans ND
        have LD := Nat.lt_of_lt_of_le LD hu.size
        clear hu
        refine Vs.fork_make (W' := u.alloc (.cells #[.pointer none] 48)) (u := .pointer (some ⟨u.heap.size, 0, none⟩)) rfl rfl (by simp only [Vs.opOf_succ, Vs.opOf_zero]; go_simp) ?_
        refine ⟨Fr.ofBelow ((Below.refl _ u).alloc (Nat.le_refl _) _) _, ?_⟩
        simp only [Vs.opOf_succ, Vs.opOf_zero, Act.put, List.setIfInBounds_toArray, List.set_cons_zero, List.set_cons_succ]
        have NA : (u.alloc (.cells #[.pointer none] 48)).heap[u.heap.size]? = some (.cells #[.pointer none] 48 (0, 0)) := heap_alloc_new u _
        obtain ⟨v, hv⟩ : ∃ v, v = u.alloc (.cells #[.pointer none] 48) := ⟨_, rfl⟩
        have hbv : Below u.heap.size u v := by rw [hv]; exact (Below.refl _ u).alloc (Nat.le_refl _) _
        obtain ⟨gA, hgA⟩ : ∃ g, g = u.heap.size := ⟨_, rfl⟩
        have LA : gA < v.heap.size := by rw [hgA, hv]; simp
        have GA : w1.heap.size ≤ gA := by rw [hgA]; exact hsu
        have ND := (hbv.block _ LD).trans ND
        have EDA : gD ≠ gA := by omega
        have LD := Nat.lt_of_lt_of_le LD hbv.size
        have hB := hB.trans (hbv.mono hsu)
        have hsu := Nat.le_trans hsu hbv.size
        rw [← hv, ← hgA] at NA
        rw [← hv, ← hgA]
        clear hv hbv hgA
        refine Vs.wpTr_path ?_
        refine Vs.wpPath_call (f := 18) (args := #[.slice none 0 0]) rfl rfl (fun W => by simp only [Vs.opOf_succ, Vs.opOf_zero]; go_simp) ?_
        intro u hu
        have hB := hB.trans (hu.mono hsu)
        have hsu := Nat.le_trans hsu hu.size
        have ND := (hu.block _ LD).trans ND
        have LD := Nat.lt_of_lt_of_le LD hu.size
        have NA := (hu.block _ LA).trans NA
        have LA := Nat.lt_of_lt_of_le LA hu.size
        clear hu
        refine (VecQ.new_nil u).mono ?_
        rintro e w' ⟨rfl, rfl⟩
        refine ⟨_, rfl, Fr.ofBelow ((Below.refl _ u).alloc (Nat.le_refl _) _) _, ?_⟩
        simp only [Vs.opOf_succ, Vs.opOf_zero, Act.put, List.setIfInBounds_toArray, List.set_cons_zero, List.set_cons_succ]
        have NP : (u.alloc (.cells #[.slice none 0 0] VT)).heap[u.heap.size]? = some (.cells #[.slice none 0 0] VT (0, 0)) := heap_alloc_new u _
        obtain ⟨v, hv⟩ : ∃ v, v = u.alloc (.cells #[.slice none 0 0] VT) := ⟨_, rfl⟩
        have hbv : Below u.heap.size u v := by rw [hv]; exact (Below.refl _ u).alloc (Nat.le_refl _) _
        obtain ⟨gP, hgP⟩ : ∃ g, g = u.heap.size := ⟨_, rfl⟩
        have LP : gP < v.heap.size := by rw [hgP, hv]; simp
        have GP : w1.heap.size ≤ gP := by rw [hgP]; exact hsu
        have ND := (hbv.block _ LD).trans ND
        have EDP : gD ≠ gP := by omega
        have LD := Nat.lt_of_lt_of_le LD hbv.size
        have NA := (hbv.block _ LA).trans NA
        have EAP : gA ≠ gP := by omega
        have LA := Nat.lt_of_lt_of_le LA hbv.size
        have hB := hB.trans (hbv.mono hsu)
        have hsu := Nat.le_trans hsu hbv.size
        rw [← hv, ← hgP] at NP
        rw [← hv, ← hgP]
        clear hv hbv hgP
        refine Vs.wpPath_put rfl ?_
        intro u hu
        have hB := hB.trans (hu.mono hsu)
        have hsu := Nat.le_trans hsu hu.size
        have ND := (hu.block _ LD).trans ND
        have LD := Nat.lt_of_lt_of_le LD hu.size
        have NA := (hu.block _ LA).trans NA
        have LA := Nat.lt_of_lt_of_le LA hu.size
        have NP := (hu.block _ LP).trans NP
        have LP := Nat.lt_of_lt_of_le LP hu.size
        clear hu
        have c0 := (cell_of_row u gA 0 _ _ _ NA).trans (by rfl)
        have cz := frozen_of_row u gA 0 _ _ NA
        refine ⟨u.setCell ⟨gA, 0, none⟩ (.pointer (some ⟨gP, 0, none⟩)), rfl, by simp only [Vs.opOf_succ, Vs.opOf_zero]; go_simp, (Fr.refl _ u).setCell (fun _ => GA) _, ?_⟩
        simp only [Vs.opOf_succ, Vs.opOf_zero, Act.put, List.setIfInBounds_toArray, List.set_cons_zero, List.set_cons_succ]
        have NA := heap_setCell_same u gA 0 _ _ (.pointer (some ⟨gP, 0, none⟩)) NA
        have ND := (heap_setCell_other u ⟨gA, 0, none⟩ gD (.pointer (some ⟨gP, 0, none⟩)) (by show gD ≠ gA; omega)).trans ND
        have NP := (heap_setCell_other u ⟨gA, 0, none⟩ gP (.pointer (some ⟨gP, 0, none⟩)) (by show gP ≠ gA; omega)).trans NP
        have LD : gD < (u.setCell ⟨gA, 0, none⟩ (.pointer (some ⟨gP, 0, none⟩))).heap.size := by simpa [World.setCell] using LD
        have LA : gA < (u.setCell ⟨gA, 0, none⟩ (.pointer (some ⟨gP, 0, none⟩))).heap.size := by simpa [World.setCell] using LA
        have LP : gP < (u.setCell ⟨gA, 0, none⟩ (.pointer (some ⟨gP, 0, none⟩))).heap.size := by simpa [World.setCell] using LP
        have hB := hB.setCell (p := ⟨gA, 0, none⟩) GA (.pointer (some ⟨gP, 0, none⟩))
        have hsu : w1.heap.size ≤ (u.setCell ⟨gA, 0, none⟩ (.pointer (some ⟨gP, 0, none⟩))).heap.size := by simpa [World.setCell] using hsu
        obtain ⟨v, hv⟩ : ∃ v, v = u.setCell ⟨gA, 0, none⟩ (.pointer (some ⟨gP, 0, none⟩)) := ⟨_, rfl⟩
        rw [← hv] at hB hsu ND NA NP LD LA LP ⊢
        clear hv c0 cz
        refine Vs.wpPath_put rfl ?_
        intro u hu
        have hB := hB.trans (hu.mono hsu)
        have hsu := Nat.le_trans hsu hu.size
        have ND := (hu.block _ LD).trans ND
        have LD := Nat.lt_of_lt_of_le LD hu.size
        have NA := (hu.block _ LA).trans NA
        have LA := Nat.lt_of_lt_of_le LA hu.size
        have NP := (hu.block _ LP).trans NP
        have LP := Nat.lt_of_lt_of_le LP hu.size
        clear hu
        have c0 := (cell_of_row u gD 0 _ _ _ ND).trans (by rfl)
        have cz := frozen_of_row u gD 0 _ _ ND
        refine ⟨u.setCell ⟨gD, 0, none⟩ (.int .i64 at'), rfl, by simp only [Vs.opOf_succ, Vs.opOf_zero]; go_simp, (Fr.refl _ u).setCell (fun _ => GD) _, ?_⟩
        simp only [Vs.opOf_succ, Vs.opOf_zero, Act.put, List.setIfInBounds_toArray, List.set_cons_zero, List.set_cons_succ]
        have ND := heap_setCell_same u gD 0 _ _ (.int .i64 at') ND
        have NA := (heap_setCell_other u ⟨gD, 0, none⟩ gA (.int .i64 at') (by show gA ≠ gD; omega)).trans NA
        have NP := (heap_setCell_other u ⟨gD, 0, none⟩ gP (.int .i64 at') (by show gP ≠ gD; omega)).trans NP
        have LD : gD < (u.setCell ⟨gD, 0, none⟩ (.int .i64 at')).heap.size := by simpa [World.setCell] using LD
        have LA : gA < (u.setCell ⟨gD, 0, none⟩ (.int .i64 at')).heap.size := by simpa [World.setCell] using LA
        have LP : gP < (u.setCell ⟨gD, 0, none⟩ (.int .i64 at')).heap.size := by simpa [World.setCell] using LP
        have hB := hB.setCell (p := ⟨gD, 0, none⟩) GD (.int .i64 at')
        have hsu : w1.heap.size ≤ (u.setCell ⟨gD, 0, none⟩ (.int .i64 at')).heap.size := by simpa [World.setCell] using hsu
        obtain ⟨v, hv⟩ : ∃ v, v = u.setCell ⟨gD, 0, none⟩ (.int .i64 at') := ⟨_, rfl⟩
        rw [← hv] at hB hsu ND NA NP LD LA LP ⊢
        clear hv c0 cz
        refine Vs.wpPath_end ?_
        intro u hu
        have hB := hB.trans (hu.mono hsu)
        have hsu := Nat.le_trans hsu hu.size
        have ND := (hu.block _ LD).trans ND
        have LD := Nat.lt_of_lt_of_le LD hu.size
        have NA := (hu.block _ LA).trans NA
        have LA := Nat.lt_of_lt_of_le LA hu.size
        have NP := (hu.block _ LP).trans NP
        have LP := Nat.lt_of_lt_of_le LP hu.size
        clear hu
        exact ⟨gP, gA, gD, rfl, Lib.hid ⟨hb1.trans (hB.mono (by omega)), by omega, by omega, by omega, by omega, by omega, by omega, (hB.block _ (by omega)).trans vl, (hB.block _ (by omega)).trans vf, NP, NA, ND⟩⟩
  rintro e0 a0 wc hcut
  cases e0 with
  | ret => exact hcut.elim
  | exit i => exact hcut.elim
  | goto i => exact hcut.elim
  | panic i => exact hcut.elim
  | outgrown => exact hcut.elim
  | normal =>
    obtain ⟨P, A, D, rfl, HM⟩ := hcut
    dsimp only [Exit.then]
    obtain ⟨mb, mP, mA, mD, mPA, mPD, mAD, vl, vf, vP, vA, vD⟩ := HM.out
    clear HM
    have mw := mb.size
    have ml : wc.cell? ⟨w.heap.size, 0, none⟩ = some (.pointer (some ⟨l, 0, none⟩)) := (cell_of_row wc _ 0 _ _ _ vl).trans (by simp)
    have d0 := cell_later mb c0
    have d1 := cell_later mb c1
    have tP := (Array.getElem?_eq_some_iff.1 vP).1
    have tA := (Array.getElem?_eq_some_iff.1 vA).1
    have tD := (Array.getElem?_eq_some_iff.1 vD).1
    have HVL := Lib.hid (And.intro vl (And.intro vf (And.intro vP (And.intro vA vD))))
    clear vl vf vP vA vD c0 c1
    gi_wp2_with (refine ⟨trivial, ?_⟩; gi_at_call 28; refine (callsIn_wide.2 (VecQ.all_new _ _)).mono ?_; rintro e w' ⟨rfl, rfl⟩)
    clear ml d0 d1
    refine name_world ?_
    intro Wi hWi
    have hWi : Wi = (wc.alloc (.cells #[.pointer (some ⟨p, 0, none⟩)] 48)).alloc (.cells #[.func (.func 36) #[] #[]] 69) := hWi
    have si : Wi.heap.size = wc.heap.size + 2 := by rw [hWi]; simp
    have bi : Below wc.heap.size wc Wi := by rw [hWi]; exact ((Below.refl _ wc).alloc (Nat.le_refl _) _).alloc (by simp) _
    have k4 : Wi.cell? ⟨wc.heap.size, 0, none⟩ = some (.pointer (some ⟨p, 0, none⟩)) := by
      rw [hWi]
      exact cell_later ((Below.refl _ _).alloc (Nat.le_refl _) _) ((cell_of_row _ _ 0 _ _ _ (heap_alloc_new wc _)).trans (by rfl))
    have k5 : Wi.cell? ⟨wc.heap.size + 1, 0, none⟩ = some (.func (.func 36) #[] #[]) := by
      rw [hWi]
      have := (cell_of_row _ _ 0 _ _ _ (heap_alloc_new (wc.alloc (.cells #[.pointer (some ⟨p, 0, none⟩)] 48)) (.cells #[.func (.func 36) #[] #[]] 69)))
      simp only [World.size_alloc] at this
      exact this.trans (by rfl)
    have bw : Below w.heap.size w Wi := mb.trans (bi.mono mw)
    have hvi := HV.out.fr (Fr.ofBelow bw (fun _ => False)) (by simp) (by simp)
    have hrl : ∀ k, r = some k → k < w.heap.size := fun k hk => (HV.out.rowLt k hk).2
    have iter := VecQ.all_iter B p (wc.heap.size + 1) wc.heap.size r ps Wi hvi (by omega) (fun k => k = P ∨ k = D) (by omega) (fun k hk => by have := hrl k hk; omega) (by omega) k5 k4
    have vP := (bi.block _ tP).trans HVL.out.2.2.1
    have vD := (bi.block _ tD).trans HVL.out.2.2.2.2
    clear hWi k4 k5 hvi
    have I0 : Rp w Wi P D (Wi.heap.size + 6) (fP x) ps at' ([] : List (Nat × P2)).length Wi := by
      refine ⟨Fr.refl _ _, ?_, none, ⟨none, 0, vP, by omega, World.ownsRow_nil _ _ _ _, rfl, by simp⟩, by simp⟩
      rw [List.length_nil, ix_zero]; exact vD
    clear vP vD
    refine rangeFunc_iter (by omega) (gf := 39) (lb := #[.pointer (some ⟨wc.heap.size + 1, 0, none⟩), .pointer (some ⟨wc.heap.size, 0, none⟩)]) rfl (enters_of Try.func39 (by kernel_rfl) rfl) iter
      (fun h1 h2 => h1.trans h2) (frK (by omega)) (Below.refl _ _) (fun _ => rfl)
      (fun pre V => Rp w Wi P D (Wi.heap.size + 6) (fP x) ps at' pre.length V)
      (fun c pre V => False) ?hI ?hIx I0 ?round ?done ?stop
    case hI => exact fun s A' B' row hs hg hr => hs.grown (by omega) (by omega) hg hr
    case hIx => exact fun c s A' B' row hs hg hr => hs
    case stop => exact fun _ _ _ _ _ _ _ h _ => h.elim
    case round =>
      rintro l' pre x V0 ⟨rest, hpr⟩ hsz0 hi0
      obtain ⟨hk, hx⟩ := range_at _ _ pre x rest hpr
      have hq : ps[pre.length]? = some ps[pre.length] := List.getElem?_eq_getElem hk
      rw [List.getD_eq_getElem?_getD, hq] at hx
      obtain ⟨n, q1, q2⟩ := x
      injection hx with hn' hqe
      dsimp only [Option.getD] at hqe
      have hpn : ∀ y : Nat × P2, (pre ++ [y]).length = n + 1 := fun y => by rw [List.length_append, List.length_singleton, hn']
      have hqn : ∃ h : n < ps.length, ps[n] = (q1, q2) := by subst hn'; exact ⟨hk, hqe.symm⟩
      have hqv : Ps.pv (q1, q2) = .agg #[.int .i64 q1, .int .i64 q2] := rfl
      dsimp only
      rw [hqv]
      simp only [← hn'] at hi0 ⊢
      have HI0 := Lib.hid hi0
      have HPN := Lib.hid hpn
      have HQN := Lib.hid hqn
      have HNN := Lib.hid hn'
      clear hi0 hqe hqv hpn hqn hn' hpr hq hk
      gi_wp2
      refine ⟨(Keep.refl _ _ _).alloc _ (by omega), (Fr.refl _ _).alloc _, HI0.out.below ((Below.refl _ V0).alloc (Nat.le_refl _) _), ?_⟩
      rintro V2 hgr hl' - hsz2 hi2
      obtain ⟨QB, hQB⟩ : ∃ QB, QB = V0.heap.size := ⟨_, rfl⟩
      have hqp : PosAt V2 QB q1 q2 := by
        rw [hQB]
        exact (hgr.block _ (by simp) (by intro e; injection e with e; omega)).trans (heap_alloc_new V0 _)
      rw [← hQB]
      have hQ6 : Wi.heap.size + 6 ≤ QB := by omega
      have hnp := HNN.out
      have hQ2 := hqp.lt
      clear hgr hQB HI0 hnp
      have f2 : ∀ k, k < Wi.heap.size → k ≠ P → k ≠ D → V2.heap[k]? = Wi.heap[k]? := fun k hk h1 h2 => hi2.fr.block k hk (by rintro (h | h) <;> omega)
      have y2 : V2.cell? ⟨w.heap.size, 0, none⟩ = some (.pointer (some ⟨l, 0, none⟩)) := (cell_of_row V2 _ 0 _ _ _ ((f2 _ (by omega) (by omega) (by omega)).trans ((bi.block _ (by omega)).trans HVL.out.1))).trans (by simp)
      have y3 : V2.cell? ⟨w.heap.size + 1, 0, none⟩ = some (.func (.func 20) #[] #[.pointer (some ⟨b, 0, none⟩)]) := (cell_of_row V2 _ 0 _ _ _ ((f2 _ (by omega) (by omega) (by omega)).trans ((bi.block _ (by omega)).trans HVL.out.2.1))).trans (by simp)
      have y4 : V2.cell? ⟨A, 0, none⟩ = some (.pointer (some ⟨P, 0, none⟩)) := (cell_of_row V2 _ 0 _ _ _ ((f2 _ (by omega) (by omega) (by omega)).trans ((bi.block _ (by omega)).trans HVL.out.2.2.2.1))).trans (by simp)
      have y5 : V2.cell? ⟨D, 0, none⟩ = some (.int .i64 (ix (fP x) ps at' n : Nat)) := (cell_of_row V2 _ 0 _ _ _ hi2.vD).trans (by simp)
      have yl : V2.cell? ⟨l, 1, none⟩ = some (.int .i64 at') := (cell_of_row V2 _ 1 _ _ _ ((f2 _ (by omega) (by omega) (by omega)).trans ((bw.block _ (by omega)).trans H1.out))).trans (by simp)
      have g0 := hqp.c0
      have g1 := hqp.c1
      have hfc := push1_any x y (q1, q2) b V2 (show V2.heap[b]? = _ from (f2 b (by have := hb.lt; omega) (by have := hb.lt; omega) (by have := hb.lt; omega)).trans ((bw.block _ hb.lt).trans hb))

      have HI2 := Lib.hid hi2
      have HQP := Lib.hid hqp
      have HF2 := Lib.hid f2
      have fD : V2.frozen? ⟨D, 0, none⟩ = false := frozen_of_row V2 _ 0 _ _ hi2.vD
      have hix := ix_le (fP x) ps at' n
      have tV2 := hi2.fr.size
      clear hi2 hqp f2
      obtain ⟨hn3, hqn⟩ := HQN.out
      cases hfe : (fP x) (q1, q2) with
      | none =>
        have hstep := ix_none (at' := at') hn3 (by rw [hqn]; exact hfe)
        have hrep := rep_none hn3 (by rw [hqn]; exact hfe)
        rw [hfe] at hfc
        dsimp only [Option.isSome] at hfc
        obtain ⟨z1, hz1⟩ : ∃ z, z = (gP (q1, q2)).1 := ⟨_, rfl⟩
        obtain ⟨z2, hz2⟩ : ∃ z, z = (gP (q1, q2)).2 := ⟨_, rfl⟩
        rw [← hz1, ← hz2] at hfc
        have HFC := Lib.hid hfc
        have HST := Lib.hid hstep
        have HRP := Lib.hid hrep
        clear hfc hz1 hz2 hstep hrep hfe hqn
        gi_wp2_with fail
        refine ⟨trivial, ?_⟩
        refine (CallsIn.inRound l' (callsIn_wide.2 HFC.out)).mono ?_
        rintro e V4 ⟨rfl, hb4⟩
        have y2 := cell_later hb4 y2
        have yl := cell_later hb4 yl
        have hs4 := hb4.size
        have HI4 := Lib.hid (HI2.out.below hb4)
        have nD : ¬ (D = V4.heap.size) := by omega
        have nW : ¬ (w.heap.size = V4.heap.size) := by omega
        have nL : ¬ (l = V4.heap.size) := by omega
        have lD : D < V4.heap.size := by omega
        have lW : w.heap.size < V4.heap.size := by omega
        have lL : l < V4.heap.size := by omega
        have fD := frozen_of_row V4 D 0 _ _ HI4.out.vD
        have HB4 := Lib.hid hb4
        clear hb4
        by_cases hia : n < at'
        · obtain ⟨X, hX⟩ : ∃ X, X = ix (fP x) ps at' (n + 1) := ⟨_, rfl⟩
          have hXe : ix (fP x) ps at' n = X + 1 := by rw [hX, HST.out, if_pos hia]
          have hX3 : X ≤ 1000 := by omega
          have y5 : V4.cell? ⟨D, 0, none⟩ = some (.int .i64 ((X : Int) + 1)) := (cell_of_row V4 _ 0 _ _ _ HI4.out.vD).trans (by rw [hXe]; simp)
          have hw : IntKind.i64.wrap ((X : Int) + 1 - 1) = (X : Int) := by rw [IntKind.wrap_i64]; omega
          have HXX := Lib.hid (And.intro hX hXe)
          have hia' : (n : Int) < (at' : Int) := by omega
          clear hX hXe hix
          gi_wp2
          refine name_post ?_
          intro W hW
          have hW : W = (V4.setCell ⟨D, 0, none⟩ (.int .i64 (X : Int))).alloc (.cells #[.int .i64 z1, .int .i64 z2] 31) := hW
          have hF : Fr (fun k => k = D) V4 W := by rw [hW]; exact (Fr.setCell (S := fun k => k = D) (p := ⟨D, 0, none⟩) (Fr.refl _ V4) (fun _ => rfl) _).alloc _
          have hF2 : Fr (fun k => k = D) V2 W := (Fr.ofBelow HB4.out _).trans hF
          have hD2 : W.heap[D]? = some (.cells #[.int .i64 (ix (fP x) ps at' (n + 1) : Nat)] 3 (0, 0)) := by
            rw [hW, ← HXX.out.1]
            exact (Below.heap_alloc _ _ D (by simpa [World.setCell] using lD)).trans ((heap_setCell_same _ D 0 _ _ (.int .i64 (X : Int)) HI4.out.vD).trans (by simp))
          refine ⟨Keep.ofFr hF2 hsz2 (fun k e => .inl (by omega)), hF2.mono (fun _ _ e => .inl (.inr e)), ?_⟩
          have hR := HI4.out.skip hF hD2 HRP.out mPD (by omega)
          show Rp w Wi P D (Wi.heap.size + 6) (fP x) ps at' (pre ++ [(n, (q1, q2))]).length W
          rw [HPN.out]
          exact hR
        · have hia' : ¬ ((n : Int) < (at' : Int)) := by omega
          have hST : ix (fP x) ps at' n = ix (fP x) ps at' (n + 1) := by have := HST.out; rw [if_neg hia] at this; omega
          have HST2 := Lib.hid hST
          clear hST
          gi_wp2
          refine name_post ?_
          intro W hW
          have hW : W = V4.alloc (.cells #[.int .i64 z1, .int .i64 z2] 31) := hW
          have hF : Fr (fun k => k = D) V4 W := by rw [hW]; exact (Fr.refl _ V4).alloc _
          have hF2 : Fr (fun k => k = D) V2 W := (Fr.ofBelow HB4.out _).trans hF
          have hD2 : W.heap[D]? = some (.cells #[.int .i64 (ix (fP x) ps at' (n + 1) : Nat)] 3 (0, 0)) := by
            rw [hW, ← HST2.out]
            exact (Below.heap_alloc V4 (.cells #[.int .i64 z1, .int .i64 z2] 31) D lD).trans HI4.out.vD
          refine ⟨Keep.ofFr hF2 hsz2 (fun k e => .inl (by omega)), hF2.mono (fun _ _ e => .inl (.inr e)), ?_⟩
          have hR := HI4.out.skip hF hD2 HRP.out mPD (by omega)
          show Rp w Wi P D (Wi.heap.size + 6) (fP x) ps at' (pre ++ [(n, (q1, q2))]).length W
          rw [HPN.out]
          exact hR
      | some v =>
        have hstep := ix_some (at' := at') hn3 (v := v) (by rw [hqn]; exact hfe)
        have hrep := rep_some hn3 (v := v) (by rw [hqn]; exact hfe)
        rw [hfe, fP_some hfe] at hfc
        dsimp only [Option.isSome] at hfc
        obtain ⟨v1, v2⟩ := v
        have HFC := Lib.hid hfc
        have HST := Lib.hid hstep
        have HRP := Lib.hid hrep
        clear hfc hstep hrep hfe hqn
        gi_wp2_with fail
        refine ⟨trivial, ?_⟩
        refine (CallsIn.inRound l' (callsIn_wide.2 HFC.out)).mono ?_
        rintro e V4 ⟨rfl, hb4⟩
        have y4 := cell_later hb4 y4
        have hs4 := hb4.size
        have HI4 := Lib.hid (HI2.out.below hb4)
        obtain ⟨V5, hV5⟩ : ∃ V5, V5 = V4.alloc (.cells #[.int .i64 v1, .int .i64 v2] 31) := ⟨_, rfl⟩
        have hb5 : Below V4.heap.size V4 V5 := by rw [hV5]; exact (Below.refl _ V4).alloc (Nat.le_refl _) _
        have s5 : V5.heap.size = V4.heap.size + 1 := by rw [hV5]; simp
        have p5 : PosAt V5 V4.heap.size v1 v2 := by rw [hV5]; exact PosAt.new _ _ _
        have y4 := cell_later hb5 y4
        have HI5 := Lib.hid (HI4.out.below hb5)
        obtain ⟨r5, hv4, hr5⟩ := HI4.out.vec
        have hv5 := hv4.fr (Fr.ofBelow hb5 (fun _ => False)) (by simp) (by simp)
        have hm := hv5
        have hln : ((ps.take n).filterMap (fP x)).length ≤ 1000 := by
          have h1 := List.length_filterMap_le (fP x) (ps.take n)
          have h2 : (ps.take n).length ≤ ps.length := by rw [List.length_take]; omega
          omega
        have hlen : ∀ W, Below V5.heap.size V5 W → Calls Try.prog 22 #[.pointer (some ⟨P, 0, none⟩)] W fun e w' => e = .returned (.int .i64 ((ps.take n).filterMap (fP x)).length) ∧ W = w' := fun W hW => VecQ.len_any w.heap.size P r5 _ _ W (hv5.fr (Fr.ofBelow hW (fun _ => False)) (by simp) (by simp))
        have hins : ∀ W, Below V5.heap.size V5 W → ∀ sv, SrcV W 2 sv 1 [.int .i64 v1, .int .i64 v2] → (∀ j, blk sv = some j → r5 ≠ some j) → Calls Try.prog 21 #[.pointer (some ⟨P, 0, none⟩), .int .i64 ((ps.take n).filterMap (fP x)).length, sv] W fun e w' => e = .returned (.bool true) ∧
            ∃ r', IsVec w' w.heap.size VT VE 2 P r' (((ps.take n).filterMap (fP x)).length + 1) (Ps.flat ((ps.take n).filterMap (fP x)) ++ [.int .i64 v1, .int .i64 v2]) ∧ Fr (fun b => b = P ∨ r5 = some b) W w' ∧ (r' = r5 ∨ ∃ g, r' = some g ∧ W.heap.size ≤ g) :=
          fun W hW sv hsv hbl => VecQ.insert_end w.heap.size P r5 _ _ sv 1 _ W (hv5.fr (Fr.ofBelow hW (fun _ => False)) (by simp) (by simp)) (Ps.flat_cells _) hsv (fun _ => hbl) (by omega) (by omega) (by omega)
        have HLEN := Lib.hid hlen
        have HINS := Lib.hid hins
        have HV5 := Lib.hid hV5
        have HR5 := Lib.hid hr5
        have HVV := Lib.hid hv5
        have q0 := p5.c0
        have q1' := p5.c1
        have HRL := Lib.hid (show ∀ k, r5 = some k → k < V4.heap.size from fun k e => (hv4.rowLt k e).2)
        have HB45 := Lib.hid hb4
        have HB5 := Lib.hid (hb5.mono hs4)
        clear hlen hins hV5 hr5 hv5 hv4 hm p5 hb4 hb5
        gi_wp2_with fail
        rw [← HV5.out]
        have F_4 := fun (C : World → Prop) (hC : Vs.Grows (fun k => k = P ∨ r5 = some k) V5 C) (z : Vs.In C) => hC.cell y4 (fun e => Or.elim e (fun e => mPA e.symm) (fun e => by have := HR5.out _ e; simp only at this; omega)) z
        have F_q0 := fun (C : World → Prop) (hC : Vs.Grows (fun k => k = P ∨ r5 = some k) V5 C) (z : Vs.In C) => hC.cell q0 (fun e => Or.elim e (fun e => by simp only at e; omega) (fun e => by have := HRL.out _ e; simp only at this; omega)) z
        have F_q1 := fun (C : World → Prop) (hC : Vs.Grows (fun k => k = P ∨ r5 = some k) V5 C) (z : Vs.In C) => hC.cell q1' (fun e => Or.elim e (fun e => by simp only at e; omega) (fun e => by have := HRL.out _ e; simp only at this; omega)) z
        have HR8 := Lib.hid hmx
        clear y2 y3 y4 y5 yl q0 q1' hmx
        refine Vs.wpIn_round_tree (S := (fun k => k = P ∨ r5 = some k)) [] (.fork ([0, 1, 3].map (fun i => (i, 0)) ++ []) 2 4 (.path [(4, 1), (5, 1)]) (.path [(2, 1), (5, 1)])) HR8.out (by kernel_rfl) (by rintro ⟨_, _, h⟩; exact h) (by kernel_rfl) ?_
        refine Vs.wpTr_fork (Vs.wpPath_on [0, 1, 3] 51 rfl (by kernel_rfl) ?_)
        simp only [List.map_cons, List.map_nil, Vs.opOf_succ, Vs.opOf_zero]
        apply Exists.intro
        refine ⟨fun C hC => ?_, ?_⟩
        · haveI hI := hC.one
          have f_4 := F_4 C hC
          have f_q0 := F_q0 C hC
          have f_q1 := F_q1 C hC
          repeat (go_big_quiet_step (fail))
          exact wpQuiet_nil rfl
        clear F_4 F_q0 F_q1
        intro u hu
        have hsu := hu.size
        refine ⟨?_, ?_⟩
        · intro u hu9
          have hu := hu.trans (hu9.mono hsu)
          have hsu := Nat.le_trans hsu hu9.size
          refine Vs.fork_call (f := 22) (args := #[.pointer (some ⟨P, 0, none⟩)]) rfl rfl (by simp only [Vs.opOf_succ, Vs.opOf_zero]; go_simp) ?_
          refine (HLEN.out _ hu).mono ?_
          rintro e w' ⟨rfl, rfl⟩
          refine ⟨_, rfl, Fr.refl _ _, ?_⟩
          simp only [Vs.opOf_succ, Vs.opOf_zero, Act.put, List.setIfInBounds_toArray, List.set_cons_zero, List.set_cons_succ]
          refine Vs.wpTr_path ?_
          refine Vs.wpPath_make rfl ?_
          intro u hu9
          have hu := hu.trans (hu9.mono hsu)
          have hsu := Nat.le_trans hsu hu9.size
          refine ⟨.slice (some ⟨u.heap.size, 0, none⟩) 1 1, u.alloc (.cells #[.int .i64 v1, .int .i64 v2] 31), rfl, by simp only [Vs.opOf_succ, Vs.opOf_zero]; go_simp, Fr.ofBelow ((Below.refl _ u).alloc (Nat.le_refl _) _) _, ?_⟩
          simp only [Vs.opOf_succ, Vs.opOf_zero, Act.put, List.setIfInBounds_toArray, List.set_cons_zero, List.set_cons_succ]
          have SP := Ps.SrcV.pos u v1 v2 31
          obtain ⟨v, hv⟩ : ∃ v, v = u.alloc (.cells #[.int .i64 v1, .int .i64 v2] 31) := ⟨_, rfl⟩
          have hbv : Below u.heap.size u v := by rw [hv]; exact (Below.refl _ u).alloc (Nat.le_refl _) _
          obtain ⟨gS, hgS⟩ : ∃ g, g = u.heap.size := ⟨_, rfl⟩
          have hgS5 : V5.heap.size ≤ gS := by rw [hgS]; exact hsu
          have hu := hu.trans (hbv.mono hsu)
          have hsu := Nat.le_trans hsu hbv.size
          rw [← hv, ← hgS] at SP ⊢
          clear hv hbv hgS
          refine Vs.wpPath_call (f := 21) (args := #[.pointer (some ⟨P, 0, none⟩), .int .i64 ((ps.take n).filterMap (fP x)).length, .slice (some ⟨gS, 0, none⟩) 1 1]) rfl rfl (fun _ => by simp only [Vs.opOf_succ, Vs.opOf_zero]; go_simp) ?_
          intro u2 hu2
          have SP := SP.below hu2
          have hu2 := hu.trans (hu2.mono hsu)
          have hin := HINS.out u2 hu2 _ SP (fun j hj e => by have := HRL.out j e; simp [blk] at hj; omega)
          refine hin.mono ?_
          rintro e W7 ⟨rfl, r7, hv7, hF7, hr7⟩
          refine ⟨_, rfl, hF7, ?_⟩
          simp only [Vs.opOf_succ, Vs.opOf_zero, Act.put, List.setIfInBounds_toArray, List.set_cons_zero, List.set_cons_succ]
          refine Vs.wpPath_end ?_
          intro W hW
          have hlo5 : Wi.heap.size + 6 ≤ V5.heap.size := by omega
          have hFa : Fr (fun k => k = P ∨ r5 = some k) V5 W7 := (Fr.ofBelow hu2 _).trans hF7
          have hF9 : Fr (fun k => k = P ∨ r5 = some k) V5 W := hFa.trans (Fr.ofBelow hW _)
          have hS9 : ∀ k, (k = P ∨ r5 = some k) → k = P ∨ Wi.heap.size + 6 ≤ k := fun k e => e.elim .inl (fun e => .inr (HR5.out k e))
          have hr9 : ∀ k, r7 = some k → Wi.heap.size + 6 ≤ k := fun k e => by
            have := hu2.size
            rcases hr7 with h | ⟨g, h, hg⟩
            · exact HR5.out k (h ▸ e)
            · rw [h] at e; injection e with e; omega
          have hv9 := hv7.fr (Fr.ofBelow hW (fun _ => False)) (by simp) (by simp)
          have hF29 : Fr (fun k => k = P ∨ Wi.heap.size + 6 ≤ k) V2 W := (Fr.ofBelow (HB45.out.trans HB5.out) _).trans' hF9 (fun i _ e => hS9 i e)
          refine ⟨Keep.ofFr hF29 hsz2 (fun k e => by omega), hF29.mono (fun k _ e => e.elim (fun e => .inl (.inl e)) (fun e => .inr (by omega))), ?_⟩
          have hR := HI5.out.add hF9 hS9 HST.out HRP.out mPD (by omega) (by omega) hv9 hr9
          show Rp w Wi P D (Wi.heap.size + 6) (fP x) ps at' (pre ++ [(n, (q1, q2))]).length W
          rw [HPN.out]
          exact hR
        · intro u hu9
          have hu := hu.trans (hu9.mono hsu)
          have hsu := Nat.le_trans hsu hu9.size
          refine Vs.fork_make (W' := u.alloc (.cells #[.int .i64 v1, .int .i64 v2] 31)) (u := .slice (some ⟨u.heap.size, 0, none⟩) 1 1) rfl rfl (by simp only [Vs.opOf_succ, Vs.opOf_zero]; go_simp) ?_
          refine ⟨Fr.ofBelow ((Below.refl _ u).alloc (Nat.le_refl _) _) _, ?_⟩
          simp only [Vs.opOf_succ, Vs.opOf_zero, Act.put, List.setIfInBounds_toArray, List.set_cons_zero, List.set_cons_succ]
          have SP := Ps.SrcV.pos u v1 v2 31
          obtain ⟨v, hv⟩ : ∃ v, v = u.alloc (.cells #[.int .i64 v1, .int .i64 v2] 31) := ⟨_, rfl⟩
          have hbv : Below u.heap.size u v := by rw [hv]; exact (Below.refl _ u).alloc (Nat.le_refl _) _
          obtain ⟨gS, hgS⟩ : ∃ g, g = u.heap.size := ⟨_, rfl⟩
          have hgS5 : V5.heap.size ≤ gS := by rw [hgS]; exact hsu
          have hu := hu.trans (hbv.mono hsu)
          have hsu := Nat.le_trans hsu hbv.size
          rw [← hv, ← hgS] at SP ⊢
          clear hv hbv hgS
          refine Vs.wpTr_path ?_
          refine Vs.wpPath_call (f := 22) (args := #[.pointer (some ⟨P, 0, none⟩)]) rfl rfl (fun _ => by simp only [Vs.opOf_succ, Vs.opOf_zero]; go_simp) ?_
          intro u hu9
          have hu := hu.trans (hu9.mono hsu)
          have hsu := Nat.le_trans hsu hu9.size
          have SP := SP.below hu9
          refine (HLEN.out _ hu).mono ?_
          rintro e w' ⟨rfl, rfl⟩
          refine ⟨_, rfl, Fr.refl _ _, ?_⟩
          simp only [Vs.opOf_succ, Vs.opOf_zero, Act.put, List.setIfInBounds_toArray, List.set_cons_zero, List.set_cons_succ]
          refine Vs.wpPath_call (f := 21) (args := #[.pointer (some ⟨P, 0, none⟩), .int .i64 ((ps.take n).filterMap (fP x)).length, .slice (some ⟨gS, 0, none⟩) 1 1]) rfl rfl (fun _ => by simp only [Vs.opOf_succ, Vs.opOf_zero]; go_simp) ?_
          intro u2 hu2
          have SP := SP.below hu2
          have hu2 := hu.trans (hu2.mono hsu)
          have hin := HINS.out u2 hu2 _ SP (fun j hj e => by have := HRL.out j e; simp [blk] at hj; omega)
          refine hin.mono ?_
          rintro e W7 ⟨rfl, r7, hv7, hF7, hr7⟩
          refine ⟨_, rfl, hF7, ?_⟩
          simp only [Vs.opOf_succ, Vs.opOf_zero, Act.put, List.setIfInBounds_toArray, List.set_cons_zero, List.set_cons_succ]
          refine Vs.wpPath_end ?_
          intro W hW
          have hlo5 : Wi.heap.size + 6 ≤ V5.heap.size := by omega
          have hFa : Fr (fun k => k = P ∨ r5 = some k) V5 W7 := (Fr.ofBelow hu2 _).trans hF7
          have hF9 : Fr (fun k => k = P ∨ r5 = some k) V5 W := hFa.trans (Fr.ofBelow hW _)
          have hS9 : ∀ k, (k = P ∨ r5 = some k) → k = P ∨ Wi.heap.size + 6 ≤ k := fun k e => e.elim .inl (fun e => .inr (HR5.out k e))
          have hr9 : ∀ k, r7 = some k → Wi.heap.size + 6 ≤ k := fun k e => by
            have := hu2.size
            rcases hr7 with h | ⟨g, h, hg⟩
            · exact HR5.out k (h ▸ e)
            · rw [h] at e; injection e with e; omega
          have hv9 := hv7.fr (Fr.ofBelow hW (fun _ => False)) (by simp) (by simp)
          have hF29 : Fr (fun k => k = P ∨ Wi.heap.size + 6 ≤ k) V2 W := (Fr.ofBelow (HB45.out.trans HB5.out) _).trans' hF9 (fun i _ e => hS9 i e)
          refine ⟨Keep.ofFr hF29 hsz2 (fun k e => by omega), hF29.mono (fun k _ e => e.elim (fun e => .inl (.inl e)) (fun e => .inr (by omega))), ?_⟩
          have hR := HI5.out.add hF9 hS9 HST.out HRP.out mPD (by omega) (by omega) hv9 hr9
          show Rp w Wi P D (Wi.heap.size + 6) (fP x) ps at' (pre ++ [(n, (q1, q2))]).length W
          rw [HPN.out]
          exact hR
    case done =>
      rintro D' V hD hI hk
      rw [List.length_map, List.length_range] at hI
      have f2 : ∀ k, k < Wi.heap.size → k ≠ P → k ≠ D → V.heap[k]? = Wi.heap[k]? := fun k hk h1 h2 => hI.fr.block k hk (by rintro (h | h) <;> omega)
      have y2 : V.cell? ⟨w.heap.size, 0, none⟩ = some (.pointer (some ⟨l, 0, none⟩)) := (cell_of_row V _ 0 _ _ _ ((f2 _ (by omega) (by omega) (by omega)).trans ((bi.block _ (by omega)).trans HVL.out.1))).trans (by simp)
      have y4 : V.cell? ⟨A, 0, none⟩ = some (.pointer (some ⟨P, 0, none⟩)) := (cell_of_row V _ 0 _ _ _ ((f2 _ (by omega) (by omega) (by omega)).trans ((bi.block _ (by omega)).trans HVL.out.2.2.2.1))).trans (by simp)
      have y5 : V.cell? ⟨D, 0, none⟩ = some (.int .i64 (ix (fP x) ps at' ps.length : Nat)) := (cell_of_row V _ 0 _ _ _ hI.vD).trans (by simp)
      have hL := (f2 l (by omega) (by omega) (by omega)).trans ((bw.block l (by omega)).trans H1.out)
      have yl0 : V.cell? ⟨l, 0, none⟩ = some (.pointer (some ⟨p, 0, none⟩)) := (cell_of_row V _ 0 _ _ _ hL).trans (by simp)
      have yl1 : V.cell? ⟨l, 1, none⟩ = some (.int .i64 at') := (cell_of_row V _ 1 _ _ _ hL).trans (by simp)
      have fl0 := frozen_of_row V l 0 _ _ hL
      have fl1 := frozen_of_row V l 1 _ _ hL
      have HIX := Lib.hid (ix_end (fP x) ps at' hat)
      have HI := Lib.hid hI
      have HK := Lib.hid hk
      have HL := Lib.hid hL
      obtain ⟨X, hX⟩ : ∃ X, X = ix (fP x) ps at' ps.length := ⟨_, rfl⟩
      have HX := Lib.hid hX
      rw [← hX] at y5
      have nD2 : ¬ (l = D) := by omega
      have nW2 : ¬ (l = w.heap.size) := by omega
      have nA2 : ¬ (l = A) := by omega
      clear f2 hI hk hL hX
      gi_wp2
      gi_region
      all_goals gi_wp2
      all_goals
        refine name_post ?_
        intro W0 hW0
        have hW0 : W0 = ((V.setCell ⟨l, 0, none⟩ (.pointer (some ⟨P, 0, none⟩))).setCell ⟨l, 1, none⟩ (.int .i64 (X : Int))).drew := hW0
        have hL0 : W0.heap[l]? = some (.cells #[.pointer (some ⟨P, 0, none⟩), .int .i64 (X : Int)] LT (0, 0)) := by
          rw [hW0]
          have h1 := heap_setCell_same V l 0 _ _ (.pointer (some ⟨P, 0, none⟩)) HL.out
          exact (heap_setCell_same _ l 1 _ _ (.int .i64 (X : Int)) h1).trans (by simp)
        have hF0 : Fr (fun k => k = l) V W0 := by
          rw [hW0]
          exact (Fr.setCell (S := fun k => k = l) (p := ⟨l, 1, none⟩) (Fr.setCell (S := fun k => k = l) (p := ⟨l, 0, none⟩) (Fr.refl _ V) (fun _ => rfl) _) (fun _ => rfl) _).drew
        have hDV : D' < V.heap.size := (Array.getElem?_eq_some_iff.1 HK.out).1
        have hk0 : W0.heap[D']? = some (.deferred (some [])) := (hF0.block D' hDV (by omega)).trans HK.out
        clear hW0
        refine ⟨by simp, .inl ⟨_, _, rfl, run_takeDeferred hk0, ?_⟩⟩
        have hF1 : Fr (fun k => k = l ∨ k = D') V (W0.putObj D' (.deferred none)) := (hF0.mono (fun _ _ e => .inl e)).grown (grownBy_putObj' W0 D' _) (fun k e _ => by cases e; exact .inr rfl)
        obtain ⟨hfr, hvd, r', hv, hr⟩ := HI.out
        refine ⟨_, results_none rfl _ _ _, rfl, P, r', ⟨?_, ?_, by omega, ?_⟩, ?_⟩
        · rw [← HIX.out, ← HX.out]
          exact (World.putObj_heap_other (by omega)).trans hL0
        · rw [List.take_length] at hv
          refine hv.fr hF1 (by omega) (fun k e => ?_)
          have h1 := hr k e
          rintro (h | h)
          · omega
          · obtain ⟨cs, hcs⟩ := vec_cells hv k e
            rw [h, HK.out] at hcs
            cases hcs
        · intro e
          have h1 := hr l e
          omega
        · have hA : Fr (fun k => k = l) w V := (Fr.ofBelow bw _).trans' hfr (fun i hi e => by omega)
          exact hA.trans' hF1 (fun i hi e => e.elim id (fun e => by omega))

set_option maxHeartbeats 4000000 in
theorem replA (B l p : Nat) (r : Option Nat) (ps : List P2) (at' : Nat) (b c d : Nat) (a o n' : Int) (w : World) (h : Lst w B l p r ps at') (hn : ps.length ≤ 1000) (hat : at' ≤ ps.length) (hb : w.cell? ⟨b, 0, none⟩ = some (.int .i64 a)) (hc : w.cell? ⟨c, 0, none⟩ = some (.int .i64 o)) (hd : w.cell? ⟨d, 0, none⟩ = some (.int .i64 n')) (hbd : ∀ q ∈ ps, -4611686018427387904 ≤ q.1 ∧ q.1 ≤ 4611686018427387904) :
    Calls Try.prog 19 #[.pointer (some ⟨l, 0, none⟩), .func (.func 25) #[] #[.pointer (some ⟨b, 0, none⟩), .pointer (some ⟨c, 0, none⟩), .pointer (some ⟨d, 0, none⟩)]] w fun e w' => e = .returned (.tuple #[]) ∧ ∃ p' r', Lst w' w.heap.size l p' r' (ps.filterMap (fA a o n')) ((ps.take at').filterMap (fA a o n')).length ∧ Fr (fun k => k = l) w w' := by
  obtain ⟨h1, hv, h2, h3⟩ := h
  have hl := (Array.getElem?_eq_some_iff.1 h1).1
  have hp := hv.lt.2
  have c0 := (cell_of_row w l 0 _ _ _ h1).trans (show _ = some (.pointer (some ⟨p, 0, none⟩)) by simp)
  have c1 := (cell_of_row w l 1 _ _ _ h1).trans (show _ = some (.int .i64 at') by simp)
  have H1 := Lib.hid h1
  have HV := Lib.hid hv
  clear h1 hv
  have hmx : Try.prog.follows .mixedOrders = true := by kernel_rfl
  refine (callsIn_wide (n := 9)).1 ?_
  refine callsIn_of_wp_marks Try.func19 rfl trivial ?_ rfl
  simp only [Try.ntmps19, List.size_toArray, List.length_cons, List.length_nil, Nat.reduceAdd, Nat.reduceSub, Array.replicate_succ, Array.replicate_zero, List.push_toArray, List.append_toArray, List.nil_append, List.cons_append]
  refine wpIn_mono (Q := noPanic _) ?_ (noPanic_out _)
  gi_wp2
  refine wpIn_mono (Q := Exit.then (fun a' wx => ∃ P A D : Nat, a' = { tmps := #[.pointer (some ⟨l, 0, none⟩), .func (.func 25) #[] #[.pointer (some ⟨b, 0, none⟩), .pointer (some ⟨c, 0, none⟩), .pointer (some ⟨d, 0, none⟩)], .pointer (some ⟨w.heap.size, 0, none⟩), .pointer (some ⟨w.heap.size + 1, 0, none⟩), .pointer (some ⟨A, 0, none⟩), .pointer (some ⟨D, 0, none⟩), undef, undef, undef, undef, .pointer (some ⟨P, 0, none⟩), .pointer (some ⟨l, 0, none⟩), .pointer (some ⟨l, 0, none⟩), .pointer (some ⟨l, 1, none⟩), .int .i64 at', undef, undef, undef, undef, undef, undef, undef, undef, undef, undef, undef, undef, undef, undef, undef, undef, undef, undef, undef, undef, undef, undef, undef, undef, undef, undef, undef, undef, undef, undef, undef, undef, undef, undef, undef, undef], defers := [] } ∧ Hid (Mid w P A D l at' (.func (.func 25) #[] #[.pointer (some ⟨b, 0, none⟩), .pointer (some ⟨c, 0, none⟩), .pointer (some ⟨d, 0, none⟩)]) wx)) (fun _ _ _ => False)) ?_ ?_
  · refine wpIn_wide.2 ?_
    obtain ⟨w1, hw1⟩ : ∃ v, v = (w.alloc (.cells #[.pointer (some ⟨l, 0, none⟩)] 24)).alloc (.cells #[.func (.func 25) #[] #[.pointer (some ⟨b, 0, none⟩), .pointer (some ⟨c, 0, none⟩), .pointer (some ⟨d, 0, none⟩)]] 53) := ⟨_, rfl⟩
    rw [← hw1]
    have hb1 : Below w.heap.size w w1 := by rw [hw1]; exact ((Below.refl _ w).alloc (Nat.le_refl _) _).alloc (by simp) _
    have s1 : w1.heap.size = w.heap.size + 2 := by rw [hw1]; simp
    have vl : w1.heap[w.heap.size]? = some (.cells #[.pointer (some ⟨l, 0, none⟩)] 24 (0, 0)) := by rw [hw1]; exact (Below.heap_alloc _ _ _ (by simp)).trans (heap_alloc_new w _)
    have vf : w1.heap[w.heap.size + 1]? = some (.cells #[.func (.func 25) #[] #[.pointer (some ⟨b, 0, none⟩), .pointer (some ⟨c, 0, none⟩), .pointer (some ⟨d, 0, none⟩)]] 53 (0, 0)) := by
      rw [hw1]
      have := heap_alloc_new (w.alloc (.cells #[.pointer (some ⟨l, 0, none⟩)] 24)) (.cells #[.func (.func 25) #[] #[.pointer (some ⟨b, 0, none⟩), .pointer (some ⟨c, 0, none⟩), .pointer (some ⟨d, 0, none⟩)]] 53)
      simpa using this
    have k0 := (cell_of_row w1 w.heap.size 0 _ _ _ vl).trans (show _ = some (.pointer (some ⟨l, 0, none⟩)) by rfl)
    have k1 := cell_later hb1 c1
    clear hw1
    have F_0 := fun (C : World → Prop) (hC : Vs.Grows (fun j => w1.heap.size ≤ j) w1 C) (z : Vs.In C) => hC.cell k0 (fun e => by simp only at e; omega) z
    have F_1 := fun (C : World → Prop) (hC : Vs.Grows (fun j => w1.heap.size ≤ j) w1 C) (z : Vs.In C) => hC.cell k1 (fun e => by simp only at e; omega) z
    refine Vs.wp_region_tree (S := fun j => w1.heap.size ≤ j) [] (.fork3 ([1, 2, 3, 4].map (fun i => (i, 0)) ++ []) 0 5 6 (.fork [] 5 6 (.path [(6, 1), (7, 1), (8, 1)]) (.path [(5, 1), (7, 1), (8, 1)])) (.fork [] 0 6 (.path [(6, 1), (7, 1), (8, 1)]) (.path [(0, 1), (7, 1), (8, 1)])) (.fork [] 0 5 (.path [(5, 1), (7, 1), (8, 1)]) (.path [(0, 1), (7, 1), (8, 1)]))) (by kernel_rfl) (by kernel_rfl) ?_
    refine Vs.wpTr_fork3 (Vs.wpPath_on [1, 2, 3, 4] 51 rfl (by kernel_rfl) ?_)
    simp only [List.map_cons, List.map_nil, Vs.opOf_succ, Vs.opOf_zero]
    apply Exists.intro
    refine ⟨fun C hC => ?_, ?_⟩
    · haveI hI := hC.one
      have f_0 := F_0 C hC
      have f_1 := F_1 C hC
      repeat (go_big_quiet_step (fail))
      exact wpQuiet_nil rfl
    clear F_0 F_1 k0 k1
    have hB : Below w1.heap.size w1 w1 := Below.refl _ _
    have hsu : w1.heap.size ≤ w1.heap.size := Nat.le_refl _
    intro u hu
    have hB := hB.trans (hu.mono hsu)
    have hsu := Nat.le_trans hsu hu.size
    clear hu
    refine ⟨?_, ?_, ?_⟩
    · intro u hu
      have hB := hB.trans (hu.mono hsu)
      have hsu := Nat.le_trans hsu hu.size
      clear hu
      refine Vs.fork_call (f := 18) (args := #[.slice none 0 0]) rfl rfl (by simp only [Vs.opOf_succ, Vs.opOf_zero]; go_simp) ?_
      refine (VecQ.new_nil u).mono ?_
      rintro e w' ⟨rfl, rfl⟩
      refine ⟨_, rfl, Fr.ofBelow ((Below.refl _ u).alloc (Nat.le_refl _) _) _, ?_⟩
      simp only [Vs.opOf_succ, Vs.opOf_zero, Act.put, List.setIfInBounds_toArray, List.set_cons_zero, List.set_cons_succ]
      have NP : (u.alloc (.cells #[.slice none 0 0] VT)).heap[u.heap.size]? = some (.cells #[.slice none 0 0] VT (0, 0)) := heap_alloc_new u _
      obtain ⟨v, hv⟩ : ∃ v, v = u.alloc (.cells #[.slice none 0 0] VT) := ⟨_, rfl⟩
      have hbv : Below u.heap.size u v := by rw [hv]; exact (Below.refl _ u).alloc (Nat.le_refl _) _
      obtain ⟨gP, hgP⟩ : ∃ g, g = u.heap.size := ⟨_, rfl⟩
      have LP : gP < v.heap.size := by rw [hgP, hv]; simp
      have GP : w1.heap.size ≤ gP := by rw [hgP]; exact hsu
      have hB := hB.trans (hbv.mono hsu)
      have hsu := Nat.le_trans hsu hbv.size
      rw [← hv, ← hgP] at NP
      rw [← hv, ← hgP]
      clear hv hbv hgP
      refine Vs.wpTr_fork ?_
      intro u hu
      have hB := hB.trans (hu.mono hsu)
      have hsu := Nat.le_trans hsu hu.size
      have NP := (hu.block _ LP).trans NP
      have LP := Nat.lt_of_lt_of_le LP hu.size
      clear hu
      refine ⟨?_, ?_⟩
      · intro u hu
        have hB := hB.trans (hu.mono hsu)
        have hsu := Nat.le_trans hsu hu.size
        have NP := (hu.block _ LP).trans NP
        have LP := Nat.lt_of_lt_of_le LP hu.size
        clear hu
        refine Vs.fork_make (W' := u.alloc (.cells #[.pointer none] 48)) (u := .pointer (some ⟨u.heap.size, 0, none⟩)) rfl rfl (by simp only [Vs.opOf_succ, Vs.opOf_zero]; go_simp) ?_
        refine ⟨Fr.ofBelow ((Below.refl _ u).alloc (Nat.le_refl _) _) _, ?_⟩
        simp only [Vs.opOf_succ, Vs.opOf_zero, Act.put, List.setIfInBounds_toArray, List.set_cons_zero, List.set_cons_succ]
        have NA : (u.alloc (.cells #[.pointer none] 48)).heap[u.heap.size]? = some (.cells #[.pointer none] 48 (0, 0)) := heap_alloc_new u _
        obtain ⟨v, hv⟩ : ∃ v, v = u.alloc (.cells #[.pointer none] 48) := ⟨_, rfl⟩
        have hbv : Below u.heap.size u v := by rw [hv]; exact (Below.refl _ u).alloc (Nat.le_refl _) _
        obtain ⟨gA, hgA⟩ : ∃ g, g = u.heap.size := ⟨_, rfl⟩
        have LA : gA < v.heap.size := by rw [hgA, hv]; simp
        have GA : w1.heap.size ≤ gA := by rw [hgA]; exact hsu
        have NP := (hbv.block _ LP).trans NP
        have EPA : gP ≠ gA := by omega
        have LP := Nat.lt_of_lt_of_le LP hbv.size
        have hB := hB.trans (hbv.mono hsu)
        have hsu := Nat.le_trans hsu hbv.size
        rw [← hv, ← hgA] at NA
        rw [← hv, ← hgA]
        clear hv hbv hgA
        refine Vs.wpTr_path ?_
        refine Vs.wpPath_make rfl ?_
        intro u hu
        have hB := hB.trans (hu.mono hsu)
        have hsu := Nat.le_trans hsu hu.size
        have NP := (hu.block _ LP).trans NP
        have LP := Nat.lt_of_lt_of_le LP hu.size
        have NA := (hu.block _ LA).trans NA
        have LA := Nat.lt_of_lt_of_le LA hu.size
        clear hu
        refine ⟨.pointer (some ⟨u.heap.size, 0, none⟩), u.alloc (.cells #[.int .i64 0] 3), rfl, by simp only [Vs.opOf_succ, Vs.opOf_zero]; go_simp, Fr.ofBelow ((Below.refl _ u).alloc (Nat.le_refl _) _) _, ?_⟩
        simp only [Vs.opOf_succ, Vs.opOf_zero, Act.put, List.setIfInBounds_toArray, List.set_cons_zero, List.set_cons_succ]
        have ND : (u.alloc (.cells #[.int .i64 0] 3)).heap[u.heap.size]? = some (.cells #[.int .i64 0] 3 (0, 0)) := heap_alloc_new u _
        obtain ⟨v, hv⟩ : ∃ v, v = u.alloc (.cells #[.int .i64 0] 3) := ⟨_, rfl⟩
        have hbv : Below u.heap.size u v := by rw [hv]; exact (Below.refl _ u).alloc (Nat.le_refl _) _
        obtain ⟨gD, hgD⟩ : ∃ g, g = u.heap.size := ⟨_, rfl⟩
        have LD : gD < v.heap.size := by rw [hgD, hv]; simp
        have GD : w1.heap.size ≤ gD := by rw [hgD]; exact hsu
        have NP := (hbv.block _ LP).trans NP
        have EPD : gP ≠ gD := by omega
        have LP := Nat.lt_of_lt_of_le LP hbv.size
        have NA := (hbv.block _ LA).trans NA
        have EAD : gA ≠ gD := by omega
        have LA := Nat.lt_of_lt_of_le LA hbv.size
        have hB := hB.trans (hbv.mono hsu)
        have hsu := Nat.le_trans hsu hbv.size
        rw [← hv, ← hgD] at ND
        rw [← hv, ← hgD]
        clear hv hbv hgD
        refine Vs.wpPath_put rfl ?_
        intro u hu
        have hB := hB.trans (hu.mono hsu)
        have hsu := Nat.le_trans hsu hu.size
        have NP := (hu.block _ LP).trans NP
        have LP := Nat.lt_of_lt_of_le LP hu.size
        have NA := (hu.block _ LA).trans NA
        have LA := Nat.lt_of_lt_of_le LA hu.size
        have ND := (hu.block _ LD).trans ND
        have LD := Nat.lt_of_lt_of_le LD hu.size
        clear hu
        have c0 := (cell_of_row u gA 0 _ _ _ NA).trans (by rfl)
        have cz := frozen_of_row u gA 0 _ _ NA
        refine ⟨u.setCell ⟨gA, 0, none⟩ (.pointer (some ⟨gP, 0, none⟩)), rfl, by simp only [Vs.opOf_succ, Vs.opOf_zero]; go_simp, (Fr.refl _ u).setCell (fun _ => GA) _, ?_⟩
        simp only [Vs.opOf_succ, Vs.opOf_zero, Act.put, List.setIfInBounds_toArray, List.set_cons_zero, List.set_cons_succ]
        have NA := heap_setCell_same u gA 0 _ _ (.pointer (some ⟨gP, 0, none⟩)) NA
        have NP := (heap_setCell_other u ⟨gA, 0, none⟩ gP (.pointer (some ⟨gP, 0, none⟩)) (by show gP ≠ gA; omega)).trans NP
        have ND := (heap_setCell_other u ⟨gA, 0, none⟩ gD (.pointer (some ⟨gP, 0, none⟩)) (by show gD ≠ gA; omega)).trans ND
        have LP : gP < (u.setCell ⟨gA, 0, none⟩ (.pointer (some ⟨gP, 0, none⟩))).heap.size := by simpa [World.setCell] using LP
        have LA : gA < (u.setCell ⟨gA, 0, none⟩ (.pointer (some ⟨gP, 0, none⟩))).heap.size := by simpa [World.setCell] using LA
        have LD : gD < (u.setCell ⟨gA, 0, none⟩ (.pointer (some ⟨gP, 0, none⟩))).heap.size := by simpa [World.setCell] using LD
        have hB := hB.setCell (p := ⟨gA, 0, none⟩) GA (.pointer (some ⟨gP, 0, none⟩))
        have hsu : w1.heap.size ≤ (u.setCell ⟨gA, 0, none⟩ (.pointer (some ⟨gP, 0, none⟩))).heap.size := by simpa [World.setCell] using hsu
        obtain ⟨v, hv⟩ : ∃ v, v = u.setCell ⟨gA, 0, none⟩ (.pointer (some ⟨gP, 0, none⟩)) := ⟨_, rfl⟩
        rw [← hv] at hB hsu NP NA ND LP LA LD ⊢
        clear hv c0 cz
        refine Vs.wpPath_put rfl ?_
        intro u hu
        have hB := hB.trans (hu.mono hsu)
        have hsu := Nat.le_trans hsu hu.size
        have NP := (hu.block _ LP).trans NP
        have LP := Nat.lt_of_lt_of_le LP hu.size
        have NA := (hu.block _ LA).trans NA
        have LA := Nat.lt_of_lt_of_le LA hu.size
        have ND := (hu.block _ LD).trans ND
        have LD := Nat.lt_of_lt_of_le LD hu.size
        clear hu
        have c0 := (cell_of_row u gD 0 _ _ _ ND).trans (by rfl)
        have cz := frozen_of_row u gD 0 _ _ ND
        refine ⟨u.setCell ⟨gD, 0, none⟩ (.int .i64 at'), rfl, by simp only [Vs.opOf_succ, Vs.opOf_zero]; go_simp, (Fr.refl _ u).setCell (fun _ => GD) _, ?_⟩
        simp only [Vs.opOf_succ, Vs.opOf_zero, Act.put, List.setIfInBounds_toArray, List.set_cons_zero, List.set_cons_succ]
        have ND := heap_setCell_same u gD 0 _ _ (.int .i64 at') ND
        have NP := (heap_setCell_other u ⟨gD, 0, none⟩ gP (.int .i64 at') (by show gP ≠ gD; omega)).trans NP
        have NA := (heap_setCell_other u ⟨gD, 0, none⟩ gA (.int .i64 at') (by show gA ≠ gD; omega)).trans NA
        have LP : gP < (u.setCell ⟨gD, 0, none⟩ (.int .i64 at')).heap.size := by simpa [World.setCell] using LP
        have LA : gA < (u.setCell ⟨gD, 0, none⟩ (.int .i64 at')).heap.size := by simpa [World.setCell] using LA
        have LD : gD < (u.setCell ⟨gD, 0, none⟩ (.int .i64 at')).heap.size := by simpa [World.setCell] using LD
        have hB := hB.setCell (p := ⟨gD, 0, none⟩) GD (.int .i64 at')
        have hsu : w1.heap.size ≤ (u.setCell ⟨gD, 0, none⟩ (.int .i64 at')).heap.size := by simpa [World.setCell] using hsu
        obtain ⟨v, hv⟩ : ∃ v, v = u.setCell ⟨gD, 0, none⟩ (.int .i64 at') := ⟨_, rfl⟩
        rw [← hv] at hB hsu NP NA ND LP LA LD ⊢
        clear hv c0 cz
        refine Vs.wpPath_end ?_
        intro u hu
        have hB := hB.trans (hu.mono hsu)
        have hsu := Nat.le_trans hsu hu.size
        have NP := (hu.block _ LP).trans NP
        have LP := Nat.lt_of_lt_of_le LP hu.size
        have NA := (hu.block _ LA).trans NA
        have LA := Nat.lt_of_lt_of_le LA hu.size
        have ND := (hu.block _ LD).trans ND
        have LD := Nat.lt_of_lt_of_le LD hu.size
        clear hu
        exact ⟨gP, gA, gD, rfl, Lib.hid ⟨hb1.trans (hB.mono (by omega)), by omega, by omega, by omega, by omega, by omega, by omega, (hB.block _ (by omega)).trans vl, (hB.block _ (by omega)).trans vf, NP, NA, ND⟩⟩
      · intro u hu
        have hB := hB.trans (hu.mono hsu)
        have hsu := Nat.le_trans hsu hu.size
        have NP := (hu.block _ LP).trans NP
        have LP := Nat.lt_of_lt_of_le LP hu.size
        clear hu
        refine Vs.fork_make (W' := u.alloc (.cells #[.int .i64 0] 3)) (u := .pointer (some ⟨u.heap.size, 0, none⟩)) rfl rfl (by simp only [Vs.opOf_succ, Vs.opOf_zero]; go_simp) ?_
        refine ⟨Fr.ofBelow ((Below.refl _ u).alloc (Nat.le_refl _) _) _, ?_⟩
        simp only [Vs.opOf_succ, Vs.opOf_zero, Act.put, List.setIfInBounds_toArray, List.set_cons_zero, List.set_cons_succ]
        have ND : (u.alloc (.cells #[.int .i64 0] 3)).heap[u.heap.size]? = some (.cells #[.int .i64 0] 3 (0, 0)) := heap_alloc_new u _
        obtain ⟨v, hv⟩ : ∃ v, v = u.alloc (.cells #[.int .i64 0] 3) := ⟨_, rfl⟩
        have hbv : Below u.heap.size u v := by rw [hv]; exact (Below.refl _ u).alloc (Nat.le_refl _) _
        obtain ⟨gD, hgD⟩ : ∃ g, g = u.heap.size := ⟨_, rfl⟩
        have LD : gD < v.heap.size := by rw [hgD, hv]; simp
        have GD : w1.heap.size ≤ gD := by rw [hgD]; exact hsu
        have NP := (hbv.block _ LP).trans NP
        have EPD : gP ≠ gD := by omega
        have LP := Nat.lt_of_lt_of_le LP hbv.size
        have hB := hB.trans (hbv.mono hsu)
        have hsu := Nat.le_trans hsu hbv.size
        rw [← hv, ← hgD] at ND
        rw [← hv, ← hgD]
        clear hv hbv hgD
        refine Vs.wpTr_path ?_
        refine Vs.wpPath_make rfl ?_
        intro u hu
        have hB := hB.trans (hu.mono hsu)
        have hsu := Nat.le_trans hsu hu.size
        have NP := (hu.block _ LP).trans NP
        have LP := Nat.lt_of_lt_of_le LP hu.size
        have ND := (hu.block _ LD).trans ND
        have LD := Nat.lt_of_lt_of_le LD hu.size
        clear hu
        refine ⟨.pointer (some ⟨u.heap.size, 0, none⟩), u.alloc (.cells #[.pointer none] 48), rfl, by simp only [Vs.opOf_succ, Vs.opOf_zero]; go_simp, Fr.ofBelow ((Below.refl _ u).alloc (Nat.le_refl _) _) _, ?_⟩
        simp only [Vs.opOf_succ, Vs.opOf_zero, Act.put, List.setIfInBounds_toArray, List.set_cons_zero, List.set_cons_succ]
        have NA : (u.alloc (.cells #[.pointer none] 48)).heap[u.heap.size]? = some (.cells #[.pointer none] 48 (0, 0)) := heap_alloc_new u _
        obtain ⟨v, hv⟩ : ∃ v, v = u.alloc (.cells #[.pointer none] 48) := ⟨_, rfl⟩
        have hbv : Below u.heap.size u v := by rw [hv]; exact (Below.refl _ u).alloc (Nat.le_refl _) _
        obtain ⟨gA, hgA⟩ : ∃ g, g = u.heap.size := ⟨_, rfl⟩
        have LA : gA < v.heap.size := by rw [hgA, hv]; simp
        have GA : w1.heap.size ≤ gA := by rw [hgA]; exact hsu
        have NP := (hbv.block _ LP).trans NP
        have EPA : gP ≠ gA := by omega
        have LP := Nat.lt_of_lt_of_le LP hbv.size
        have ND := (hbv.block _ LD).trans ND
        have EDA : gD ≠ gA := by omega
        have LD := Nat.lt_of_lt_of_le LD hbv.size
        have hB := hB.trans (hbv.mono hsu)
        have hsu := Nat.le_trans hsu hbv.size
        rw [← hv, ← hgA] at NA
        rw [← hv, ← hgA]
        clear hv hbv hgA
        refine Vs.wpPath_put rfl ?_
        intro u hu
        have hB := hB.trans (hu.mono hsu)
        have hsu := Nat.le_trans hsu hu.size
        have NP := (hu.block _ LP).trans NP
        have LP := Nat.lt_of_lt_of_le LP hu.size
        have ND := (hu.block _ LD).trans ND
        have LD := Nat.lt_of_lt_of_le LD hu.size
        have NA := (hu.block _ LA).trans NA
        have LA := Nat.lt_of_lt_of_le LA hu.size
        clear hu
        have c0 := (cell_of_row u gA 0 _ _ _ NA).trans (by rfl)
        have cz := frozen_of_row u gA 0 _ _ NA
        refine ⟨u.setCell ⟨gA, 0, none⟩ (.pointer (some ⟨gP, 0, none⟩)), rfl, by simp only [Vs.opOf_succ, Vs.opOf_zero]; go_simp, (Fr.refl _ u).setCell (fun _ => GA) _, ?_⟩
        simp only [Vs.opOf_succ, Vs.opOf_zero, Act.put, List.setIfInBounds_toArray, List.set_cons_zero, List.set_cons_succ]
        have NA := heap_setCell_same u gA 0 _ _ (.pointer (some ⟨gP, 0, none⟩)) NA
        have NP := (heap_setCell_other u ⟨gA, 0, none⟩ gP (.pointer (some ⟨gP, 0, none⟩)) (by show gP ≠ gA; omega)).trans NP
        have ND := (heap_setCell_other u ⟨gA, 0, none⟩ gD (.pointer (some ⟨gP, 0, none⟩)) (by show gD ≠ gA; omega)).trans ND
        have LP : gP < (u.setCell ⟨gA, 0, none⟩ (.pointer (some ⟨gP, 0, none⟩))).heap.size := by simpa [World.setCell] using LP
        have LD : gD < (u.setCell ⟨gA, 0, none⟩ (.pointer (some ⟨gP, 0, none⟩))).heap.size := by simpa [World.setCell] using LD
        have LA : gA < (u.setCell ⟨gA, 0, none⟩ (.pointer (some ⟨gP, 0, none⟩))).heap.size := by simpa [World.setCell] using LA
        have hB := hB.setCell (p := ⟨gA, 0, none⟩) GA (.pointer (some ⟨gP, 0, none⟩))
        have hsu : w1.heap.size ≤ (u.setCell ⟨gA, 0, none⟩ (.pointer (some ⟨gP, 0, none⟩))).heap.size := by simpa [World.setCell] using hsu
        obtain ⟨v, hv⟩ : ∃ v, v = u.setCell ⟨gA, 0, none⟩ (.pointer (some ⟨gP, 0, none⟩)) := ⟨_, rfl⟩
        rw [← hv] at hB hsu NP ND NA LP LD LA ⊢
        clear hv c0 cz
        refine Vs.wpPath_put rfl ?_
        intro u hu
        have hB := hB.trans (hu.mono hsu)
        have hsu := Nat.le_trans hsu hu.size
        have NP := (hu.block _ LP).trans NP
        have LP := Nat.lt_of_lt_of_le LP hu.size
        have ND := (hu.block _ LD).trans ND
        have LD := Nat.lt_of_lt_of_le LD hu.size
        have NA := (hu.block _ LA).trans NA
        have LA := Nat.lt_of_lt_of_le LA hu.size
        clear hu
        have c0 := (cell_of_row u gD 0 _ _ _ ND).trans (by rfl)
        have cz := frozen_of_row u gD 0 _ _ ND
        refine ⟨u.setCell ⟨gD, 0, none⟩ (.int .i64 at'), rfl, by simp only [Vs.opOf_succ, Vs.opOf_zero]; go_simp, (Fr.refl _ u).setCell (fun _ => GD) _, ?_⟩
        simp only [Vs.opOf_succ, Vs.opOf_zero, Act.put, List.setIfInBounds_toArray, List.set_cons_zero, List.set_cons_succ]
        have ND := heap_setCell_same u gD 0 _ _ (.int .i64 at') ND
        have NP := (heap_setCell_other u ⟨gD, 0, none⟩ gP (.int .i64 at') (by show gP ≠ gD; omega)).trans NP
        have NA := (heap_setCell_other u ⟨gD, 0, none⟩ gA (.int .i64 at') (by show gA ≠ gD; omega)).trans NA
        have LP : gP < (u.setCell ⟨gD, 0, none⟩ (.int .i64 at')).heap.size := by simpa [World.setCell] using LP
        have LD : gD < (u.setCell ⟨gD, 0, none⟩ (.int .i64 at')).heap.size := by simpa [World.setCell] using LD
        have LA : gA < (u.setCell ⟨gD, 0, none⟩ (.int .i64 at')).heap.size := by simpa [World.setCell] using LA
        have hB := hB.setCell (p := ⟨gD, 0, none⟩) GD (.int .i64 at')
        have hsu : w1.heap.size ≤ (u.setCell ⟨gD, 0, none⟩ (.int .i64 at')).heap.size := by simpa [World.setCell] using hsu
        obtain ⟨v, hv⟩ : ∃ v, v = u.setCell ⟨gD, 0, none⟩ (.int .i64 at') := ⟨_, rfl⟩
        rw [← hv] at hB hsu NP ND NA LP LD LA ⊢
        clear hv c0 cz
        refine Vs.wpPath_end ?_
        intro u hu
        have hB := hB.trans (hu.mono hsu)
        have hsu := Nat.le_trans hsu hu.size
        have NP := (hu.block _ LP).trans NP
        have LP := Nat.lt_of_lt_of_le LP hu.size
        have ND := (hu.block _ LD).trans ND
        have LD := Nat.lt_of_lt_of_le LD hu.size
        have NA := (hu.block _ LA).trans NA
        have LA := Nat.lt_of_lt_of_le LA hu.size
        clear hu
        exact ⟨gP, gA, gD, rfl, Lib.hid ⟨hb1.trans (hB.mono (by omega)), by omega, by omega, by omega, by omega, by omega, by omega, (hB.block _ (by omega)).trans vl, (hB.block _ (by omega)).trans vf, NP, NA, ND⟩⟩
    · intro u hu
      have hB := hB.trans (hu.mono hsu)
      have hsu := Nat.le_trans hsu hu.size
      clear hu
      refine Vs.fork_make (W' := u.alloc (.cells #[.pointer none] 48)) (u := .pointer (some ⟨u.heap.size, 0, none⟩)) rfl rfl (by simp only [Vs.opOf_succ, Vs.opOf_zero]; go_simp) ?_
      refine ⟨Fr.ofBelow ((Below.refl _ u).alloc (Nat.le_refl _) _) _, ?_⟩
      simp only [Vs.opOf_succ, Vs.opOf_zero, Act.put, List.setIfInBounds_toArray, List.set_cons_zero, List.set_cons_succ]
      have NA : (u.alloc (.cells #[.pointer none] 48)).heap[u.heap.size]? = some (.cells #[.pointer none] 48 (0, 0)) := heap_alloc_new u _
      obtain ⟨v, hv⟩ : ∃ v, v = u.alloc (.cells #[.pointer none] 48) := ⟨_, rfl⟩
      have hbv : Below u.heap.size u v := by rw [hv]; exact (Below.refl _ u).alloc (Nat.le_refl _) _
      obtain ⟨gA, hgA⟩ : ∃ g, g = u.heap.size := ⟨_, rfl⟩
      have LA : gA < v.heap.size := by rw [hgA, hv]; simp
      have GA : w1.heap.size ≤ gA := by rw [hgA]; exact hsu
      have hB := hB.trans (hbv.mono hsu)
      have hsu := Nat.le_trans hsu hbv.size
      rw [← hv, ← hgA] at NA
      rw [← hv, ← hgA]
      clear hv hbv hgA
      refine Vs.wpTr_fork ?_
      intro u hu
      have hB := hB.trans (hu.mono hsu)
      have hsu := Nat.le_trans hsu hu.size
      have NA := (hu.block _ LA).trans NA
      have LA := Nat.lt_of_lt_of_le LA hu.size
      clear hu
      refine ⟨?_, ?_⟩
      · intro u hu
        have hB := hB.trans (hu.mono hsu)
        have hsu := Nat.le_trans hsu hu.size
        have NA := (hu.block _ LA).trans NA
        have LA := Nat.lt_of_lt_of_le LA hu.size
        clear hu
        refine Vs.fork_call (f := 18) (args := #[.slice none 0 0]) rfl rfl (by simp only [Vs.opOf_succ, Vs.opOf_zero]; go_simp) ?_
        refine (VecQ.new_nil u).mono ?_
        rintro e w' ⟨rfl, rfl⟩
        refine ⟨_, rfl, Fr.ofBelow ((Below.refl _ u).alloc (Nat.le_refl _) _) _, ?_⟩
        simp only [Vs.opOf_succ, Vs.opOf_zero, Act.put, List.setIfInBounds_toArray, List.set_cons_zero, List.set_cons_succ]
        have NP : (u.alloc (.cells #[.slice none 0 0] VT)).heap[u.heap.size]? = some (.cells #[.slice none 0 0] VT (0, 0)) := heap_alloc_new u _
        obtain ⟨v, hv⟩ : ∃ v, v = u.alloc (.cells #[.slice none 0 0] VT) := ⟨_, rfl⟩
        have hbv : Below u.heap.size u v := by rw [hv]; exact (Below.refl _ u).alloc (Nat.le_refl _) _
        obtain ⟨gP, hgP⟩ : ∃ g, g = u.heap.size := ⟨_, rfl⟩
        have LP : gP < v.heap.size := by rw [hgP, hv]; simp
        have GP : w1.heap.size ≤ gP := by rw [hgP]; exact hsu
        have NA := (hbv.block _ LA).trans NA
        have EAP : gA ≠ gP := by omega
        have LA := Nat.lt_of_lt_of_le LA hbv.size
        have hB := hB.trans (hbv.mono hsu)
        have hsu := Nat.le_trans hsu hbv.size
        rw [← hv, ← hgP] at NP
        rw [← hv, ← hgP]
        clear hv hbv hgP
        refine Vs.wpTr_path ?_
        refine Vs.wpPath_make rfl ?_
        intro u hu
        have hB := hB.trans (hu.mono hsu)
        have hsu := Nat.le_trans hsu hu.size
        have NA := (hu.block _ LA).trans NA
        have LA := Nat.lt_of_lt_of_le LA hu.size
        have NP := (hu.block _ LP).trans NP
        have LP := Nat.lt_of_lt_of_le LP hu.size
        clear hu
        refine ⟨.pointer (some ⟨u.heap.size, 0, none⟩), u.alloc (.cells #[.int .i64 0] 3), rfl, by simp only [Vs.opOf_succ, Vs.opOf_zero]; go_simp, Fr.ofBelow ((Below.refl _ u).alloc (Nat.le_refl _) _) _, ?_⟩
        simp only [Vs.opOf_succ, Vs.opOf_zero, Act.put, List.setIfInBounds_toArray, List.set_cons_zero, List.set_cons_succ]
        have ND : (u.alloc (.cells #[.int .i64 0] 3)).heap[u.heap.size]? = some (.cells #[.int .i64 0] 3 (0, 0)) := heap_alloc_new u _
        obtain ⟨v, hv⟩ : ∃ v, v = u.alloc (.cells #[.int .i64 0] 3) := ⟨_, rfl⟩
        have hbv : Below u.heap.size u v := by rw [hv]; exact (Below.refl _ u).alloc (Nat.le_refl _) _
        obtain ⟨gD, hgD⟩ : ∃ g, g = u.heap.size := ⟨_, rfl⟩
        have LD : gD < v.heap.size := by rw [hgD, hv]; simp
        have GD : w1.heap.size ≤ gD := by rw [hgD]; exact hsu
        have NA := (hbv.block _ LA).trans NA
        have EAD : gA ≠ gD := by omega
        have LA := Nat.lt_of_lt_of_le LA hbv.size
        have NP := (hbv.block _ LP).trans NP
        have EPD : gP ≠ gD := by omega
        have LP := Nat.lt_of_lt_of_le LP hbv.size
        have hB := hB.trans (hbv.mono hsu)
        have hsu := Nat.le_trans hsu hbv.size
        rw [← hv, ← hgD] at ND
        rw [← hv, ← hgD]
        clear hv hbv hgD
        refine Vs.wpPath_put rfl ?_
        intro u hu
        have hB := hB.trans (hu.mono hsu)
        have hsu := Nat.le_trans hsu hu.size
        have NA := (hu.block _ LA).trans NA
        have LA := Nat.lt_of_lt_of_le LA hu.size
        have NP := (hu.block _ LP).trans NP
        have LP := Nat.lt_of_lt_of_le LP hu.size
        have ND := (hu.block _ LD).trans ND
        have LD := Nat.lt_of_lt_of_le LD hu.size
        clear hu
        have c0 := (cell_of_row u gA 0 _ _ _ NA).trans (by rfl)
        have cz := frozen_of_row u gA 0 _ _ NA
        refine ⟨u.setCell ⟨gA, 0, none⟩ (.pointer (some ⟨gP, 0, none⟩)), rfl, by simp only [Vs.opOf_succ, Vs.opOf_zero]; go_simp, (Fr.refl _ u).setCell (fun _ => GA) _, ?_⟩
        simp only [Vs.opOf_succ, Vs.opOf_zero, Act.put, List.setIfInBounds_toArray, List.set_cons_zero, List.set_cons_succ]
        have NA := heap_setCell_same u gA 0 _ _ (.pointer (some ⟨gP, 0, none⟩)) NA
        have NP := (heap_setCell_other u ⟨gA, 0, none⟩ gP (.pointer (some ⟨gP, 0, none⟩)) (by show gP ≠ gA; omega)).trans NP
        have ND := (heap_setCell_other u ⟨gA, 0, none⟩ gD (.pointer (some ⟨gP, 0, none⟩)) (by show gD ≠ gA; omega)).trans ND
        have LA : gA < (u.setCell ⟨gA, 0, none⟩ (.pointer (some ⟨gP, 0, none⟩))).heap.size := by simpa [World.setCell] using LA
        have LP : gP < (u.setCell ⟨gA, 0, none⟩ (.pointer (some ⟨gP, 0, none⟩))).heap.size := by simpa [World.setCell] using LP
        have LD : gD < (u.setCell ⟨gA, 0, none⟩ (.pointer (some ⟨gP, 0, none⟩))).heap.size := by simpa [World.setCell] using LD
        have hB := hB.setCell (p := ⟨gA, 0, none⟩) GA (.pointer (some ⟨gP, 0, none⟩))
        have hsu : w1.heap.size ≤ (u.setCell ⟨gA, 0, none⟩ (.pointer (some ⟨gP, 0, none⟩))).heap.size := by simpa [World.setCell] using hsu
        obtain ⟨v, hv⟩ : ∃ v, v = u.setCell ⟨gA, 0, none⟩ (.pointer (some ⟨gP, 0, none⟩)) := ⟨_, rfl⟩
        rw [← hv] at hB hsu NA NP ND LA LP LD ⊢
        clear hv c0 cz
        refine Vs.wpPath_put rfl ?_
        intro u hu
        have hB := hB.trans (hu.mono hsu)
        have hsu := Nat.le_trans hsu hu.size
        have NA := (hu.block _ LA).trans NA
        have LA := Nat.lt_of_lt_of_le LA hu.size
        have NP := (hu.block _ LP).trans NP
        have LP := Nat.lt_of_lt_of_le LP hu.size
        have ND := (hu.block _ LD).trans ND
        have LD := Nat.lt_of_lt_of_le LD hu.size
        clear hu
        have c0 := (cell_of_row u gD 0 _ _ _ ND).trans (by rfl)
        have cz := frozen_of_row u gD 0 _ _ ND
        refine ⟨u.setCell ⟨gD, 0, none⟩ (.int .i64 at'), rfl, by simp only [Vs.opOf_succ, Vs.opOf_zero]; go_simp, (Fr.refl _ u).setCell (fun _ => GD) _, ?_⟩
        simp only [Vs.opOf_succ, Vs.opOf_zero, Act.put, List.setIfInBounds_toArray, List.set_cons_zero, List.set_cons_succ]
        have ND := heap_setCell_same u gD 0 _ _ (.int .i64 at') ND
        have NA := (heap_setCell_other u ⟨gD, 0, none⟩ gA (.int .i64 at') (by show gA ≠ gD; omega)).trans NA
        have NP := (heap_setCell_other u ⟨gD, 0, none⟩ gP (.int .i64 at') (by show gP ≠ gD; omega)).trans NP
        have LA : gA < (u.setCell ⟨gD, 0, none⟩ (.int .i64 at')).heap.size := by simpa [World.setCell] using LA
        have LP : gP < (u.setCell ⟨gD, 0, none⟩ (.int .i64 at')).heap.size := by simpa [World.setCell] using LP
        have LD : gD < (u.setCell ⟨gD, 0, none⟩ (.int .i64 at')).heap.size := by simpa [World.setCell] using LD
        have hB := hB.setCell (p := ⟨gD, 0, none⟩) GD (.int .i64 at')
        have hsu : w1.heap.size ≤ (u.setCell ⟨gD, 0, none⟩ (.int .i64 at')).heap.size := by simpa [World.setCell] using hsu
        obtain ⟨v, hv⟩ : ∃ v, v = u.setCell ⟨gD, 0, none⟩ (.int .i64 at') := ⟨_, rfl⟩
        rw [← hv] at hB hsu NA NP ND LA LP LD ⊢
        clear hv c0 cz
        refine Vs.wpPath_end ?_
        intro u hu
        have hB := hB.trans (hu.mono hsu)
        have hsu := Nat.le_trans hsu hu.size
        have NA := (hu.block _ LA).trans NA
        have LA := Nat.lt_of_lt_of_le LA hu.size
        have NP := (hu.block _ LP).trans NP
        have LP := Nat.lt_of_lt_of_le LP hu.size
        have ND := (hu.block _ LD).trans ND
        have LD := Nat.lt_of_lt_of_le LD hu.size
        clear hu
        exact ⟨gP, gA, gD, rfl, Lib.hid ⟨hb1.trans (hB.mono (by omega)), by omega, by omega, by omega, by omega, by omega, by omega, (hB.block _ (by omega)).trans vl, (hB.block _ (by omega)).trans vf, NP, NA, ND⟩⟩
      · intro u hu
        have hB := hB.trans (hu.mono hsu)
        have hsu := Nat.le_trans hsu hu.size
        have NA := (hu.block _ LA).trans NA
        have LA := Nat.lt_of_lt_of_le LA hu.size
        clear hu
        refine Vs.fork_make (W' := u.alloc (.cells #[.int .i64 0] 3)) (u := .pointer (some ⟨u.heap.size, 0, none⟩)) rfl rfl (by simp only [Vs.opOf_succ, Vs.opOf_zero]; go_simp) ?_
        refine ⟨Fr.ofBelow ((Below.refl _ u).alloc (Nat.le_refl _) _) _, ?_⟩
        simp only [Vs.opOf_succ, Vs.opOf_zero, Act.put, List.setIfInBounds_toArray, List.set_cons_zero, List.set_cons_succ]
        have ND : (u.alloc (.cells #[.int .i64 0] 3)).heap[u.heap.size]? = some (.cells #[.int .i64 0] 3 (0, 0)) := heap_alloc_new u _
        obtain ⟨v, hv⟩ : ∃ v, v = u.alloc (.cells #[.int .i64 0] 3) := ⟨_, rfl⟩
        have hbv : Below u.heap.size u v := by rw [hv]; exact (Below.refl _ u).alloc (Nat.le_refl _) _
        obtain ⟨gD, hgD⟩ : ∃ g, g = u.heap.size := ⟨_, rfl⟩
        have LD : gD < v.heap.size := by rw [hgD, hv]; simp
        have GD : w1.heap.size ≤ gD := by rw [hgD]; exact hsu
        have NA := (hbv.block _ LA).trans NA
        have EAD : gA ≠ gD := by omega
        have LA := Nat.lt_of_lt_of_le LA hbv.size
        have hB := hB.trans (hbv.mono hsu)
        have hsu := Nat.le_trans hsu hbv.size
        rw [← hv, ← hgD] at ND
        rw [← hv, ← hgD]
        clear hv hbv hgD
        refine Vs.wpTr_path ?_
        refine Vs.wpPath_call (f := 18) (args := #[.slice none 0 0]) rfl rfl (fun W => by simp only [Vs.opOf_succ, Vs.opOf_zero]; go_simp) ?_
        intro u hu
        have hB := hB.trans (hu.mono hsu)
        have hsu := Nat.le_trans hsu hu.size
        have NA := (hu.block _ LA).trans NA
        have LA := Nat.lt_of_lt_of_le LA hu.size
        have ND := (hu.block _ LD).trans ND
        have LD := Nat.lt_of_lt_of_le LD hu.size
        clear hu
        refine (VecQ.new_nil u).mono ?_
        rintro e w' ⟨rfl, rfl⟩
        refine ⟨_, rfl, Fr.ofBelow ((Below.refl _ u).alloc (Nat.le_refl _) _) _, ?_⟩
        simp only [Vs.opOf_succ, Vs.opOf_zero, Act.put, List.setIfInBounds_toArray, List.set_cons_zero, List.set_cons_succ]
        have NP : (u.alloc (.cells #[.slice none 0 0] VT)).heap[u.heap.size]? = some (.cells #[.slice none 0 0] VT (0, 0)) := heap_alloc_new u _
        obtain ⟨v, hv⟩ : ∃ v, v = u.alloc (.cells #[.slice none 0 0] VT) := ⟨_, rfl⟩
        have hbv : Below u.heap.size u v := by rw [hv]; exact (Below.refl _ u).alloc (Nat.le_refl _) _
        obtain ⟨gP, hgP⟩ : ∃ g, g = u.heap.size := ⟨_, rfl⟩
        have LP : gP < v.heap.size := by rw [hgP, hv]; simp
        have GP : w1.heap.size ≤ gP := by rw [hgP]; exact hsu
        have NA := (hbv.block _ LA).trans NA
        have EAP : gA ≠ gP := by omega
        have LA := Nat.lt_of_lt_of_le LA hbv.size
        have ND := (hbv.block _ LD).trans ND
        have EDP : gD ≠ gP := by omega
        have LD := Nat.lt_of_lt_of_le LD hbv.size
        have hB := hB.trans (hbv.mono hsu)
        have hsu := Nat.le_trans hsu hbv.size
        rw [← hv, ← hgP] at NP
        rw [← hv, ← hgP]
        clear hv hbv hgP
        refine Vs.wpPath_put rfl ?_
        intro u hu
        have hB := hB.trans (hu.mono hsu)
        have hsu := Nat.le_trans hsu hu.size
        have NA := (hu.block _ LA).trans NA
        have LA := Nat.lt_of_lt_of_le LA hu.size
        have ND := (hu.block _ LD).trans ND
        have LD := Nat.lt_of_lt_of_le LD hu.size
        have NP := (hu.block _ LP).trans NP
        have LP := Nat.lt_of_lt_of_le LP hu.size
        clear hu
        have c0 := (cell_of_row u gA 0 _ _ _ NA).trans (by rfl)
        have cz := frozen_of_row u gA 0 _ _ NA
        refine ⟨u.setCell ⟨gA, 0, none⟩ (.pointer (some ⟨gP, 0, none⟩)), rfl, by simp only [Vs.opOf_succ, Vs.opOf_zero]; go_simp, (Fr.refl _ u).setCell (fun _ => GA) _, ?_⟩
        simp only [Vs.opOf_succ, Vs.opOf_zero, Act.put, List.setIfInBounds_toArray, List.set_cons_zero, List.set_cons_succ]
        have NA := heap_setCell_same u gA 0 _ _ (.pointer (some ⟨gP, 0, none⟩)) NA
        have ND := (heap_setCell_other u ⟨gA, 0, none⟩ gD (.pointer (some ⟨gP, 0, none⟩)) (by show gD ≠ gA; omega)).trans ND
        have NP := (heap_setCell_other u ⟨gA, 0, none⟩ gP (.pointer (some ⟨gP, 0, none⟩)) (by show gP ≠ gA; omega)).trans NP
        have LA : gA < (u.setCell ⟨gA, 0, none⟩ (.pointer (some ⟨gP, 0, none⟩))).heap.size := by simpa [World.setCell] using LA
        have LD : gD < (u.setCell ⟨gA, 0, none⟩ (.pointer (some ⟨gP, 0, none⟩))).heap.size := by simpa [World.setCell] using LD
        have LP : gP < (u.setCell ⟨gA, 0, none⟩ (.pointer (some ⟨gP, 0, none⟩))).heap.size := by simpa [World.setCell] using LP
        have hB := hB.setCell (p := ⟨gA, 0, none⟩) GA (.pointer (some ⟨gP, 0, none⟩))
        have hsu : w1.heap.size ≤ (u.setCell ⟨gA, 0, none⟩ (.pointer (some ⟨gP, 0, none⟩))).heap.size := by simpa [World.setCell] using hsu
        obtain ⟨v, hv⟩ : ∃ v, v = u.setCell ⟨gA, 0, none⟩ (.pointer (some ⟨gP, 0, none⟩)) := ⟨_, rfl⟩
        rw [← hv] at hB hsu NA ND NP LA LD LP ⊢
        clear hv c0 cz
        refine Vs.wpPath_put rfl ?_
        intro u hu
        have hB := hB.trans (hu.mono hsu)
        have hsu := Nat.le_trans hsu hu.size
        have NA := (hu.block _ LA).trans NA
        have LA := Nat.lt_of_lt_of_le LA hu.size
        have ND := (hu.block _ LD).trans ND
        have LD := Nat.lt_of_lt_of_le LD hu.size
        have NP := (hu.block _ LP).trans NP
        have LP := Nat.lt_of_lt_of_le LP hu.size
        clear hu
        have c0 := (cell_of_row u gD 0 _ _ _ ND).trans (by rfl)
        have cz := frozen_of_row u gD 0 _ _ ND
        refine ⟨u.setCell ⟨gD, 0, none⟩ (.int .i64 at'), rfl, by simp only [Vs.opOf_succ, Vs.opOf_zero]; go_simp, (Fr.refl _ u).setCell (fun _ => GD) _, ?_⟩
        simp only [Vs.opOf_succ, Vs.opOf_zero, Act.put, List.setIfInBounds_toArray, List.set_cons_zero, List.set_cons_succ]
        have ND := heap_setCell_same u gD 0 _ _ (.int .i64 at') ND
        have NA := (heap_setCell_other u ⟨gD, 0, none⟩ gA (.int .i64 at') (by show gA ≠ gD; omega)).trans NA
        have NP := (heap_setCell_other u ⟨gD, 0, none⟩ gP (.int .i64 at') (by show gP ≠ gD; omega)).trans NP
        have LA : gA < (u.setCell ⟨gD, 0, none⟩ (.int .i64 at')).heap.size := by simpa [World.setCell] using LA
        have LD : gD < (u.setCell ⟨gD, 0, none⟩ (.int .i64 at')).heap.size := by simpa [World.setCell] using LD
        have LP : gP < (u.setCell ⟨gD, 0, none⟩ (.int .i64 at')).heap.size := by simpa [World.setCell] using LP
        have hB := hB.setCell (p := ⟨gD, 0, none⟩) GD (.int .i64 at')
        have hsu : w1.heap.size ≤ (u.setCell ⟨gD, 0, none⟩ (.int .i64 at')).heap.size := by simpa [World.setCell] using hsu
        obtain ⟨v, hv⟩ : ∃ v, v = u.setCell ⟨gD, 0, none⟩ (.int .i64 at') := ⟨_, rfl⟩
        rw [← hv] at hB hsu NA ND NP LA LD LP ⊢
        clear hv c0 cz
        refine Vs.wpPath_end ?_
        intro u hu
        have hB := hB.trans (hu.mono hsu)
        have hsu := Nat.le_trans hsu hu.size
        have NA := (hu.block _ LA).trans NA
        have LA := Nat.lt_of_lt_of_le LA hu.size
        have ND := (hu.block _ LD).trans ND
        have LD := Nat.lt_of_lt_of_le LD hu.size
        have NP := (hu.block _ LP).trans NP
        have LP := Nat.lt_of_lt_of_le LP hu.size
        clear hu
        exact ⟨gP, gA, gD, rfl, Lib.hid ⟨hb1.trans (hB.mono (by omega)), by omega, by omega, by omega, by omega, by omega, by omega, (hB.block _ (by omega)).trans vl, (hB.block _ (by omega)).trans vf, NP, NA, ND⟩⟩
    · intro u hu
      have hB := hB.trans (hu.mono hsu)
      have hsu := Nat.le_trans hsu hu.size
      clear hu
      refine Vs.fork_make (W' := u.alloc (.cells #[.int .i64 0] 3)) (u := .pointer (some ⟨u.heap.size, 0, none⟩)) rfl rfl (by simp only [Vs.opOf_succ, Vs.opOf_zero]; go_simp) ?_
      refine ⟨Fr.ofBelow ((Below.refl _ u).alloc (Nat.le_refl _) _) _, ?_⟩
      simp only [Vs.opOf_succ, Vs.opOf_zero, Act.put, List.setIfInBounds_toArray, List.set_cons_zero, List.set_cons_succ]
      have ND : (u.alloc (.cells #[.int .i64 0] 3)).heap[u.heap.size]? = some (.cells #[.int .i64 0] 3 (0, 0)) := heap_alloc_new u _
      obtain ⟨v, hv⟩ : ∃ v, v = u.alloc (.cells #[.int .i64 0] 3) := ⟨_, rfl⟩
      have hbv : Below u.heap.size u v := by rw [hv]; exact (Below.refl _ u).alloc (Nat.le_refl _) _
      obtain ⟨gD, hgD⟩ : ∃ g, g = u.heap.size := ⟨_, rfl⟩
      have LD : gD < v.heap.size := by rw [hgD, hv]; simp
      have GD : w1.heap.size ≤ gD := by rw [hgD]; exact hsu
      have hB := hB.trans (hbv.mono hsu)
      have hsu := Nat.le_trans hsu hbv.size
      rw [← hv, ← hgD] at ND
      rw [← hv, ← hgD]
      clear hv hbv hgD
      refine Vs.wpTr_fork ?_
      intro u hu
      have hB := hB.trans (hu.mono hsu)
      have hsu := Nat.le_trans hsu hu.size
      have ND := (hu.block _ LD).trans ND
      have LD := Nat.lt_of_lt_of_le LD hu.size
      clear hu
      refine ⟨?_, ?_⟩
      · intro u hu
        have hB := hB.trans (hu.mono hsu)
        have hsu := Nat.le_trans hsu hu.size
        have ND := (hu.block _ LD).trans ND
        have LD := Nat.lt_of_lt_of_le LD hu.size
        clear hu
        refine Vs.fork_call (f := 18) (args := #[.slice none 0 0]) rfl rfl (by simp only [Vs.opOf_succ, Vs.opOf_zero]; go_simp) ?_
        refine (VecQ.new_nil u).mono ?_
        rintro e w' ⟨rfl, rfl⟩
        refine ⟨_, rfl, Fr.ofBelow ((Below.refl _ u).alloc (Nat.le_refl _) _) _, ?_⟩
        simp only [Vs.opOf_succ, Vs.opOf_zero, Act.put, List.setIfInBounds_toArray, List.set_cons_zero, List.set_cons_succ]
        have NP : (u.alloc (.cells #[.slice none 0 0] VT)).heap[u.heap.size]? = some (.cells #[.slice none 0 0] VT (0, 0)) := heap_alloc_new u _
        obtain ⟨v, hv⟩ : ∃ v, v = u.alloc (.cells #[.slice none 0 0] VT) := ⟨_, rfl⟩
        have hbv : Below u.heap.size u v := by rw [hv]; exact (Below.refl _ u).alloc (Nat.le_refl _) _
        obtain ⟨gP, hgP⟩ : ∃ g, g = u.heap.size := ⟨_, rfl⟩
        have LP : gP < v.heap.size := by rw [hgP, hv]; simp
        have GP : w1.heap.size ≤ gP := by rw [hgP]; exact hsu
        have ND := (hbv.block _ LD).trans ND
        have EDP : gD ≠ gP := by omega
        have LD := Nat.lt_of_lt_of_le LD hbv.size
        have hB := hB.trans (hbv.mono hsu)
        have hsu := Nat.le_trans hsu hbv.size
        rw [← hv, ← hgP] at NP
        rw [← hv, ← hgP]
        clear hv hbv hgP
        refine Vs.wpTr_path ?_
        refine Vs.wpPath_make rfl ?_
        intro u hu
        have hB := hB.trans (hu.mono hsu)
        have hsu := Nat.le_trans hsu hu.size
        have ND := (hu.block _ LD).trans ND
        have LD := Nat.lt_of_lt_of_le LD hu.size
        have NP := (hu.block _ LP).trans NP
        have LP := Nat.lt_of_lt_of_le LP hu.size
        clear hu
        refine ⟨.pointer (some ⟨u.heap.size, 0, none⟩), u.alloc (.cells #[.pointer none] 48), rfl, by simp only [Vs.opOf_succ, Vs.opOf_zero]; go_simp, Fr.ofBelow ((Below.refl _ u).alloc (Nat.le_refl _) _) _, ?_⟩
        simp only [Vs.opOf_succ, Vs.opOf_zero, Act.put, List.setIfInBounds_toArray, List.set_cons_zero, List.set_cons_succ]
        have NA : (u.alloc (.cells #[.pointer none] 48)).heap[u.heap.size]? = some (.cells #[.pointer none] 48 (0, 0)) := heap_alloc_new u _
        obtain ⟨v, hv⟩ : ∃ v, v = u.alloc (.cells #[.pointer none] 48) := ⟨_, rfl⟩
        have hbv : Below u.heap.size u v := by rw [hv]; exact (Below.refl _ u).alloc (Nat.le_refl _) _
        obtain ⟨gA, hgA⟩ : ∃ g, g = u.heap.size := ⟨_, rfl⟩
        have LA : gA < v.heap.size := by rw [hgA, hv]; simp
        have GA : w1.heap.size ≤ gA := by rw [hgA]; exact hsu
        have ND := (hbv.block _ LD).trans ND
        have EDA : gD ≠ gA := by omega
        have LD := Nat.lt_of_lt_of_le LD hbv.size
        have NP := (hbv.block _ LP).trans NP
        have EPA : gP ≠ gA := by omega
        have LP := Nat.lt_of_lt_of_le LP hbv.size
        have hB := hB.trans (hbv.mono hsu)
        have hsu := Nat.le_trans hsu hbv.size
        rw [← hv, ← hgA] at NA
        rw [← hv, ← hgA]
        clear hv hbv hgA
        refine Vs.wpPath_put rfl ?_
        intro u hu
        have hB := hB.trans (hu.mono hsu)
        have hsu := Nat.le_trans hsu hu.size
        have ND := (hu.block _ LD).trans ND
        have LD := Nat.lt_of_lt_of_le LD hu.size
        have NP := (hu.block _ LP).trans NP
        have LP := Nat.lt_of_lt_of_le LP hu.size
        have NA := (hu.block _ LA).trans NA
        have LA := Nat.lt_of_lt_of_le LA hu.size
        clear hu
        have c0 := (cell_of_row u gA 0 _ _ _ NA).trans (by rfl)
        have cz := frozen_of_row u gA 0 _ _ NA
        refine ⟨u.setCell ⟨gA, 0, none⟩ (.pointer (some ⟨gP, 0, none⟩)), rfl, by simp only [Vs.opOf_succ, Vs.opOf_zero]; go_simp, (Fr.refl _ u).setCell (fun _ => GA) _, ?_⟩
        simp only [Vs.opOf_succ, Vs.opOf_zero, Act.put, List.setIfInBounds_toArray, List.set_cons_zero, List.set_cons_succ]
        have NA := heap_setCell_same u gA 0 _ _ (.pointer (some ⟨gP, 0, none⟩)) NA
        have ND := (heap_setCell_other u ⟨gA, 0, none⟩ gD (.pointer (some ⟨gP, 0, none⟩)) (by show gD ≠ gA; omega)).trans ND
        have NP := (heap_setCell_other u ⟨gA, 0, none⟩ gP (.pointer (some ⟨gP, 0, none⟩)) (by show gP ≠ gA; omega)).trans NP
        have LD : gD < (u.setCell ⟨gA, 0, none⟩ (.pointer (some ⟨gP, 0, none⟩))).heap.size := by simpa [World.setCell] using LD
        have LP : gP < (u.setCell ⟨gA, 0, none⟩ (.pointer (some ⟨gP, 0, none⟩))).heap.size := by simpa [World.setCell] using LP
        have LA : gA < (u.setCell ⟨gA, 0, none⟩ (.pointer (some ⟨gP, 0, none⟩))).heap.size := by simpa [World.setCell] using LA
        have hB := hB.setCell (p := ⟨gA, 0, none⟩) GA (.pointer (some ⟨gP, 0, none⟩))
        have hsu : w1.heap.size ≤ (u.setCell ⟨gA, 0, none⟩ (.pointer (some ⟨gP, 0, none⟩))).heap.size := by simpa [World.setCell] using hsu
        obtain ⟨v, hv⟩ : ∃ v, v = u.setCell ⟨gA, 0, none⟩ (.pointer (some ⟨gP, 0, none⟩)) := ⟨_, rfl⟩
        rw [← hv] at hB hsu ND NP NA LD LP LA ⊢
        clear hv c0 cz
        refine Vs.wpPath_put rfl ?_
        intro u hu
        have hB := hB.trans (hu.mono hsu)
        have hsu := Nat.le_trans hsu hu.size
        have ND := (hu.block _ LD).trans ND
        have LD := Nat.lt_of_lt_of_le LD hu.size
        have NP := (hu.block _ LP).trans NP
        have LP := Nat.lt_of_lt_of_le LP hu.size
        have NA := (hu.block _ LA).trans NA
        have LA := Nat.lt_of_lt_of_le LA hu.size
        clear hu
        have c0 := (cell_of_row u gD 0 _ _ _ ND).trans (by rfl)
        have cz := frozen_of_row u gD 0 _ _ ND
        refine ⟨u.setCell ⟨gD, 0, none⟩ (.int .i64 at'), rfl, by simp only [Vs.opOf_succ, Vs.opOf_zero]; go_simp, (Fr.refl _ u).setCell (fun _ => GD) _, ?_⟩
        simp only [Vs.opOf_succ, Vs.opOf_zero, Act.put, List.setIfInBounds_toArray, List.set_cons_zero, List.set_cons_succ]
        have ND := heap_setCell_same u gD 0 _ _ (.int .i64 at') ND
        have NP := (heap_setCell_other u ⟨gD, 0, none⟩ gP (.int .i64 at') (by show gP ≠ gD; omega)).trans NP
        have NA := (heap_setCell_other u ⟨gD, 0, none⟩ gA (.int .i64 at') (by show gA ≠ gD; omega)).trans NA
        have LD : gD < (u.setCell ⟨gD, 0, none⟩ (.int .i64 at')).heap.size := by simpa [World.setCell] using LD
        have LP : gP < (u.setCell ⟨gD, 0, none⟩ (.int .i64 at')).heap.size := by simpa [World.setCell] using LP
        have LA : gA < (u.setCell ⟨gD, 0, none⟩ (.int .i64 at')).heap.size := by simpa [World.setCell] using LA
        have hB := hB.setCell (p := ⟨gD, 0, none⟩) GD (.int .i64 at')
        have hsu : w1.heap.size ≤ (u.setCell ⟨gD, 0, none⟩ (.int .i64 at')).heap.size := by simpa [World.setCell] using hsu
        obtain ⟨v, hv⟩ : ∃ v, v = u.setCell ⟨gD, 0, none⟩ (.int .i64 at') := ⟨_, rfl⟩
        rw [← hv] at hB hsu ND NP NA LD LP LA ⊢
        clear hv c0 cz
        refine Vs.wpPath_end ?_
        intro u hu
        have hB := hB.trans (hu.mono hsu)
        have hsu := Nat.le_trans hsu hu.size
        have ND := (hu.block _ LD).trans ND
        have LD := Nat.lt_of_lt_of_le LD hu.size
        have NP := (hu.block _ LP).trans NP
        have LP := Nat.lt_of_lt_of_le LP hu.size
        have NA := (hu.block _ LA).trans NA
        have LA := Nat.lt_of_lt_of_le LA hu.size
        clear hu
        exact ⟨gP, gA, gD, rfl, Lib.hid ⟨hb1.trans (hB.mono (by omega)), by omega, by omega, by omega, by omega, by omega, by omega, (hB.block _ (by omega)).trans vl, (hB.block _ (by omega)).trans vf, NP, NA, ND⟩⟩
      · intro u hu
        have hB := hB.trans (hu.mono hsu)
        have hsu := Nat.le_trans hsu hu.size
        have ND := (hu.block _ LD).trans ND
        have LD := Nat.lt_of_lt_of_le LD hu.size
        clear hu
        refine Vs.fork_make (W' := u.alloc (.cells #[.pointer none] 48)) (u := .pointer (some ⟨u.heap.size, 0, none⟩)) rfl rfl (by simp only [Vs.opOf_succ, Vs.opOf_zero]; go_simp) ?_
        refine ⟨Fr.ofBelow ((Below.refl _ u).alloc (Nat.le_refl _) _) _, ?_⟩
        simp only [Vs.opOf_succ, Vs.opOf_zero, Act.put, List.setIfInBounds_toArray, List.set_cons_zero, List.set_cons_succ]
        have NA : (u.alloc (.cells #[.pointer none] 48)).heap[u.heap.size]? = some (.cells #[.pointer none] 48 (0, 0)) := heap_alloc_new u _
        obtain ⟨v, hv⟩ : ∃ v, v = u.alloc (.cells #[.pointer none] 48) := ⟨_, rfl⟩
        have hbv : Below u.heap.size u v := by rw [hv]; exact (Below.refl _ u).alloc (Nat.le_refl _) _
        obtain ⟨gA, hgA⟩ : ∃ g, g = u.heap.size := ⟨_, rfl⟩
        have LA : gA < v.heap.size := by rw [hgA, hv]; simp
        have GA : w1.heap.size ≤ gA := by rw [hgA]; exact hsu
        have ND := (hbv.block _ LD).trans ND
        have EDA : gD ≠ gA := by omega
        have LD := Nat.lt_of_lt_of_le LD hbv.size
        have hB := hB.trans (hbv.mono hsu)
        have hsu := Nat.le_trans hsu hbv.size
        rw [← hv, ← hgA] at NA
        rw [← hv, ← hgA]
        clear hv hbv hgA
        refine Vs.wpTr_path ?_
        refine Vs.wpPath_call (f := 18) (args := #[.slice none 0 0]) rfl rfl (fun W => by simp only [Vs.opOf_succ, Vs.opOf_zero]; go_simp) ?_
        intro u hu
        have hB := hB.trans (hu.mono hsu)
        have hsu := Nat.le_trans hsu hu.size
        have ND := (hu.block _ LD).trans ND
        have LD := Nat.lt_of_lt_of_le LD hu.size
        have NA := (hu.block _ LA).trans NA
        have LA := Nat.lt_of_lt_of_le LA hu.size
        clear hu
        refine (VecQ.new_nil u).mono ?_
        rintro e w' ⟨rfl, rfl⟩
        refine ⟨_, rfl, Fr.ofBelow ((Below.refl _ u).alloc (Nat.le_refl _) _) _, ?_⟩
        simp only [Vs.opOf_succ, Vs.opOf_zero, Act.put, List.setIfInBounds_toArray, List.set_cons_zero, List.set_cons_succ]
        have NP : (u.alloc (.cells #[.slice none 0 0] VT)).heap[u.heap.size]? = some (.cells #[.slice none 0 0] VT (0, 0)) := heap_alloc_new u _
        obtain ⟨v, hv⟩ : ∃ v, v = u.alloc (.cells #[.slice none 0 0] VT) := ⟨_, rfl⟩
        have hbv : Below u.heap.size u v := by rw [hv]; exact (Below.refl _ u).alloc (Nat.le_refl _) _
        obtain ⟨gP, hgP⟩ : ∃ g, g = u.heap.size := ⟨_, rfl⟩
        have LP : gP < v.heap.size := by rw [hgP, hv]; simp
        have GP : w1.heap.size ≤ gP := by rw [hgP]; exact hsu
        have ND := (hbv.block _ LD).trans ND
        have EDP : gD ≠ gP := by omega
        have LD := Nat.lt_of_lt_of_le LD hbv.size
        have NA := (hbv.block _ LA).trans NA
        have EAP : gA ≠ gP := by omega
        have LA := Nat.lt_of_lt_of_le LA hbv.size
        have hB := hB.trans (hbv.mono hsu)
        have hsu := Nat.le_trans hsu hbv.size
        rw [← hv, ← hgP] at NP
        rw [← hv, ← hgP]
        clear hv hbv hgP
        refine Vs.wpPath_put rfl ?_
        intro u hu
        have hB := hB.trans (hu.mono hsu)
        have hsu := Nat.le_trans hsu hu.size
        have ND := (hu.block _ LD).trans ND
        have LD := Nat.lt_of_lt_of_le LD hu.size
        have NA := (hu.block _ LA).trans NA
        have LA := Nat.lt_of_lt_of_le LA hu.size
        have NP := (hu.block _ LP).trans NP
        have LP := Nat.lt_of_lt_of_le LP hu.size
        clear hu
        have c0 := (cell_of_row u gA 0 _ _ _ NA).trans (by rfl)
        have cz := frozen_of_row u gA 0 _ _ NA
        refine ⟨u.setCell ⟨gA, 0, none⟩ (.pointer (some ⟨gP, 0, none⟩)), rfl, by simp only [Vs.opOf_succ, Vs.opOf_zero]; go_simp, (Fr.refl _ u).setCell (fun _ => GA) _, ?_⟩
        simp only [Vs.opOf_succ, Vs.opOf_zero, Act.put, List.setIfInBounds_toArray, List.set_cons_zero, List.set_cons_succ]
        have NA := heap_setCell_same u gA 0 _ _ (.pointer (some ⟨gP, 0, none⟩)) NA
        have ND := (heap_setCell_other u ⟨gA, 0, none⟩ gD (.pointer (some ⟨gP, 0, none⟩)) (by show gD ≠ gA; omega)).trans ND
        have NP := (heap_setCell_other u ⟨gA, 0, none⟩ gP (.pointer (some ⟨gP, 0, none⟩)) (by show gP ≠ gA; omega)).trans NP
        have LD : gD < (u.setCell ⟨gA, 0, none⟩ (.pointer (some ⟨gP, 0, none⟩))).heap.size := by simpa [World.setCell] using LD
        have LA : gA < (u.setCell ⟨gA, 0, none⟩ (.pointer (some ⟨gP, 0, none⟩))).heap.size := by simpa [World.setCell] using LA
        have LP : gP < (u.setCell ⟨gA, 0, none⟩ (.pointer (some ⟨gP, 0, none⟩))).heap.size := by simpa [World.setCell] using LP
        have hB := hB.setCell (p := ⟨gA, 0, none⟩) GA (.pointer (some ⟨gP, 0, none⟩))
        have hsu : w1.heap.size ≤ (u.setCell ⟨gA, 0, none⟩ (.pointer (some ⟨gP, 0, none⟩))).heap.size := by simpa [World.setCell] using hsu
        obtain ⟨v, hv⟩ : ∃ v, v = u.setCell ⟨gA, 0, none⟩ (.pointer (some ⟨gP, 0, none⟩)) := ⟨_, rfl⟩
        rw [← hv] at hB hsu ND NA NP LD LA LP ⊢
        clear hv c0 cz
        refine Vs.wpPath_put rfl ?_
        intro u hu
        have hB := hB.trans (hu.mono hsu)
        have hsu := Nat.le_trans hsu hu.size
        have ND := (hu.block _ LD).trans ND
        have LD := Nat.lt_of_lt_of_le LD hu.size
        have NA := (hu.block _ LA).trans NA
        have LA := Nat.lt_of_lt_of_le LA hu.size
        have NP := (hu.block _ LP).trans NP
        have LP := Nat.lt_of_lt_of_le LP hu.size
        clear hu
        have c0 := (cell_of_row u gD 0 _ _ _ ND).trans (by rfl)
        have cz := frozen_of_row u gD 0 _ _ ND
        refine ⟨u.setCell ⟨gD, 0, none⟩ (.int .i64 at'), rfl, by simp only [Vs.opOf_succ, Vs.opOf_zero]; go_simp, (Fr.refl _ u).setCell (fun _ => GD) _, ?_⟩
        simp only [Vs.opOf_succ, Vs.opOf_zero, Act.put, List.setIfInBounds_toArray, List.set_cons_zero, List.set_cons_succ]
        have ND := heap_setCell_same u gD 0 _ _ (.int .i64 at') ND
        have NA := (heap_setCell_other u ⟨gD, 0, none⟩ gA (.int .i64 at') (by show gA ≠ gD; omega)).trans NA
        have NP := (heap_setCell_other u ⟨gD, 0, none⟩ gP (.int .i64 at') (by show gP ≠ gD; omega)).trans NP
        have LD : gD < (u.setCell ⟨gD, 0, none⟩ (.int .i64 at')).heap.size := by simpa [World.setCell] using LD
        have LA : gA < (u.setCell ⟨gD, 0, none⟩ (.int .i64 at')).heap.size := by simpa [World.setCell] using LA
        have LP : gP < (u.setCell ⟨gD, 0, none⟩ (.int .i64 at')).heap.size := by simpa [World.setCell] using LP
        have hB := hB.setCell (p := ⟨gD, 0, none⟩) GD (.int .i64 at')
        have hsu : w1.heap.size ≤ (u.setCell ⟨gD, 0, none⟩ (.int .i64 at')).heap.size := by simpa [World.setCell] using hsu
        obtain ⟨v, hv⟩ : ∃ v, v = u.setCell ⟨gD, 0, none⟩ (.int .i64 at') := ⟨_, rfl⟩
        rw [← hv] at hB hsu ND NA NP LD LA LP ⊢
        clear hv c0 cz
        refine Vs.wpPath_end ?_
        intro u hu
        have hB := hB.trans (hu.mono hsu)
        have hsu := Nat.le_trans hsu hu.size
        have ND := (hu.block _ LD).trans ND
        have LD := Nat.lt_of_lt_of_le LD hu.size
        have NA := (hu.block _ LA).trans NA
        have LA := Nat.lt_of_lt_of_le LA hu.size
        have NP := (hu.block _ LP).trans NP
        have LP := Nat.lt_of_lt_of_le LP hu.size
        clear hu
        exact ⟨gP, gA, gD, rfl, Lib.hid ⟨hb1.trans (hB.mono (by omega)), by omega, by omega, by omega, by omega, by omega, by omega, (hB.block _ (by omega)).trans vl, (hB.block _ (by omega)).trans vf, NP, NA, ND⟩⟩
  rintro e0 a0 wc hcut
  cases e0 with
  | ret => exact hcut.elim
  | exit i => exact hcut.elim
  | goto i => exact hcut.elim
  | panic i => exact hcut.elim
  | outgrown => exact hcut.elim
  | normal =>
    obtain ⟨P, A, D, rfl, HM⟩ := hcut
    dsimp only [Exit.then]
    obtain ⟨mb, mP, mA, mD, mPA, mPD, mAD, vl, vf, vP, vA, vD⟩ := HM.out
    clear HM
    have mw := mb.size
    have ml : wc.cell? ⟨w.heap.size, 0, none⟩ = some (.pointer (some ⟨l, 0, none⟩)) := (cell_of_row wc _ 0 _ _ _ vl).trans (by simp)
    have d0 := cell_later mb c0
    have d1 := cell_later mb c1
    have tP := (Array.getElem?_eq_some_iff.1 vP).1
    have tA := (Array.getElem?_eq_some_iff.1 vA).1
    have tD := (Array.getElem?_eq_some_iff.1 vD).1
    have HVL := Lib.hid (And.intro vl (And.intro vf (And.intro vP (And.intro vA vD))))
    clear vl vf vP vA vD c0 c1
    gi_wp2_with (refine ⟨trivial, ?_⟩; gi_at_call 28; refine (callsIn_wide.2 (VecQ.all_new _ _)).mono ?_; rintro e w' ⟨rfl, rfl⟩)
    clear ml d0 d1
    refine name_world ?_
    intro Wi hWi
    have hWi : Wi = (wc.alloc (.cells #[.pointer (some ⟨p, 0, none⟩)] 48)).alloc (.cells #[.func (.func 36) #[] #[]] 69) := hWi
    have si : Wi.heap.size = wc.heap.size + 2 := by rw [hWi]; simp
    have bi : Below wc.heap.size wc Wi := by rw [hWi]; exact ((Below.refl _ wc).alloc (Nat.le_refl _) _).alloc (by simp) _
    have k4 : Wi.cell? ⟨wc.heap.size, 0, none⟩ = some (.pointer (some ⟨p, 0, none⟩)) := by
      rw [hWi]
      exact cell_later ((Below.refl _ _).alloc (Nat.le_refl _) _) ((cell_of_row _ _ 0 _ _ _ (heap_alloc_new wc _)).trans (by rfl))
    have k5 : Wi.cell? ⟨wc.heap.size + 1, 0, none⟩ = some (.func (.func 36) #[] #[]) := by
      rw [hWi]
      have := (cell_of_row _ _ 0 _ _ _ (heap_alloc_new (wc.alloc (.cells #[.pointer (some ⟨p, 0, none⟩)] 48)) (.cells #[.func (.func 36) #[] #[]] 69)))
      simp only [World.size_alloc] at this
      exact this.trans (by rfl)
    have bw : Below w.heap.size w Wi := mb.trans (bi.mono mw)
    have hvi := HV.out.fr (Fr.ofBelow bw (fun _ => False)) (by simp) (by simp)
    have hrl : ∀ k, r = some k → k < w.heap.size := fun k hk => (HV.out.rowLt k hk).2
    have iter := VecQ.all_iter B p (wc.heap.size + 1) wc.heap.size r ps Wi hvi (by omega) (fun k => k = P ∨ k = D) (by omega) (fun k hk => by have := hrl k hk; omega) (by omega) k5 k4
    have vP := (bi.block _ tP).trans HVL.out.2.2.1
    have vD := (bi.block _ tD).trans HVL.out.2.2.2.2
    clear hWi k4 k5 hvi
    have I0 : Rp w Wi P D (Wi.heap.size + 6) (fA a o n') ps at' ([] : List (Nat × P2)).length Wi := by
      refine ⟨Fr.refl _ _, ?_, none, ⟨none, 0, vP, by omega, World.ownsRow_nil _ _ _ _, rfl, by simp⟩, by simp⟩
      rw [List.length_nil, ix_zero]; exact vD
    clear vP vD
    refine rangeFunc_iter (by omega) (gf := 39) (lb := #[.pointer (some ⟨wc.heap.size + 1, 0, none⟩), .pointer (some ⟨wc.heap.size, 0, none⟩)]) rfl (enters_of Try.func39 (by kernel_rfl) rfl) iter
      (fun h1 h2 => h1.trans h2) (frK (by omega)) (Below.refl _ _) (fun _ => rfl)
      (fun pre V => Rp w Wi P D (Wi.heap.size + 6) (fA a o n') ps at' pre.length V)
      (fun c pre V => False) ?hI ?hIx I0 ?round ?done ?stop
    case hI => exact fun s A' B' row hs hg hr => hs.grown (by omega) (by omega) hg hr
    case hIx => exact fun c s A' B' row hs hg hr => hs
    case stop => exact fun _ _ _ _ _ _ _ h _ => h.elim
    case round =>
      rintro l' pre x V0 ⟨rest, hpr⟩ hsz0 hi0
      obtain ⟨hk, hx⟩ := range_at _ _ pre x rest hpr
      have hq : ps[pre.length]? = some ps[pre.length] := List.getElem?_eq_getElem hk
      rw [List.getD_eq_getElem?_getD, hq] at hx
      obtain ⟨n, q1, q2⟩ := x
      injection hx with hn' hqe
      dsimp only [Option.getD] at hqe
      have hpn : ∀ y : Nat × P2, (pre ++ [y]).length = n + 1 := fun y => by rw [List.length_append, List.length_singleton, hn']
      have hqn : ∃ h : n < ps.length, ps[n] = (q1, q2) := by subst hn'; exact ⟨hk, hqe.symm⟩
      have hqv : Ps.pv (q1, q2) = .agg #[.int .i64 q1, .int .i64 q2] := rfl
      dsimp only
      rw [hqv]
      simp only [← hn'] at hi0 ⊢
      have HI0 := Lib.hid hi0
      have HPN := Lib.hid hpn
      have HQN := Lib.hid hqn
      have HNN := Lib.hid hn'
      clear hi0 hqe hqv hpn hqn hn' hpr hq hk
      gi_wp2
      refine ⟨(Keep.refl _ _ _).alloc _ (by omega), (Fr.refl _ _).alloc _, HI0.out.below ((Below.refl _ V0).alloc (Nat.le_refl _) _), ?_⟩
      rintro V2 hgr hl' - hsz2 hi2
      obtain ⟨QB, hQB⟩ : ∃ QB, QB = V0.heap.size := ⟨_, rfl⟩
      have hqp : PosAt V2 QB q1 q2 := by
        rw [hQB]
        exact (hgr.block _ (by simp) (by intro e; injection e with e; omega)).trans (heap_alloc_new V0 _)
      rw [← hQB]
      have hQ6 : Wi.heap.size + 6 ≤ QB := by omega
      have hnp := HNN.out
      have hQ2 := hqp.lt
      clear hgr hQB HI0 hnp
      have f2 : ∀ k, k < Wi.heap.size → k ≠ P → k ≠ D → V2.heap[k]? = Wi.heap[k]? := fun k hk h1 h2 => hi2.fr.block k hk (by rintro (h | h) <;> omega)
      have y2 : V2.cell? ⟨w.heap.size, 0, none⟩ = some (.pointer (some ⟨l, 0, none⟩)) := (cell_of_row V2 _ 0 _ _ _ ((f2 _ (by omega) (by omega) (by omega)).trans ((bi.block _ (by omega)).trans HVL.out.1))).trans (by simp)
      have y3 : V2.cell? ⟨w.heap.size + 1, 0, none⟩ = some (.func (.func 25) #[] #[.pointer (some ⟨b, 0, none⟩), .pointer (some ⟨c, 0, none⟩), .pointer (some ⟨d, 0, none⟩)]) := (cell_of_row V2 _ 0 _ _ _ ((f2 _ (by omega) (by omega) (by omega)).trans ((bi.block _ (by omega)).trans HVL.out.2.1))).trans (by simp)
      have y4 : V2.cell? ⟨A, 0, none⟩ = some (.pointer (some ⟨P, 0, none⟩)) := (cell_of_row V2 _ 0 _ _ _ ((f2 _ (by omega) (by omega) (by omega)).trans ((bi.block _ (by omega)).trans HVL.out.2.2.2.1))).trans (by simp)
      have y5 : V2.cell? ⟨D, 0, none⟩ = some (.int .i64 (ix (fA a o n') ps at' n : Nat)) := (cell_of_row V2 _ 0 _ _ _ hi2.vD).trans (by simp)
      have yl : V2.cell? ⟨l, 1, none⟩ = some (.int .i64 at') := (cell_of_row V2 _ 1 _ _ _ ((f2 _ (by omega) (by omega) (by omega)).trans ((bw.block _ (by omega)).trans H1.out))).trans (by simp)
      have g0 := hqp.c0
      have g1 := hqp.c1
      have hmem : (q1, q2) ∈ ps := by
        obtain ⟨h, e⟩ := HQN.out
        rw [← e]; exact List.getElem_mem h
      have lb := World.block_lt_of_cell? w _ hb
      have lc := World.block_lt_of_cell? w _ hc
      have ld := World.block_lt_of_cell? w _ hd
      have hfc := adj1_any a o n' (q1, q2) b c d V2 (hi2.fr.cell (cell_later bw hb) (by rintro (h | h) <;> (simp only at h lb; omega))) (hi2.fr.cell (cell_later bw hc) (by rintro (h | h) <;> (simp only at h lc; omega))) (hi2.fr.cell (cell_later bw hd) (by rintro (h | h) <;> (simp only at h ld; omega))) (hbd _ hmem)
      clear lb lc ld hmem
      have HI2 := Lib.hid hi2
      have HQP := Lib.hid hqp
      have HF2 := Lib.hid f2
      have fD : V2.frozen? ⟨D, 0, none⟩ = false := frozen_of_row V2 _ 0 _ _ hi2.vD
      have hix := ix_le (fA a o n') ps at' n
      have tV2 := hi2.fr.size
      clear hi2 hqp f2
      obtain ⟨hn3, hqn⟩ := HQN.out
      cases hfe : (fA a o n') (q1, q2) with
      | none =>
        have hstep := ix_none (at' := at') hn3 (by rw [hqn]; exact hfe)
        have hrep := rep_none hn3 (by rw [hqn]; exact hfe)
        rw [hfe] at hfc
        dsimp only [Option.isSome] at hfc
        obtain ⟨z1, hz1⟩ : ∃ z, z = (gA a o n' (q1, q2)).1 := ⟨_, rfl⟩
        obtain ⟨z2, hz2⟩ : ∃ z, z = (gA a o n' (q1, q2)).2 := ⟨_, rfl⟩
        rw [← hz1, ← hz2] at hfc
        have HFC := Lib.hid hfc
        have HST := Lib.hid hstep
        have HRP := Lib.hid hrep
        clear hfc hz1 hz2 hstep hrep hfe hqn
        gi_wp2_with fail
        refine ⟨trivial, ?_⟩
        refine (CallsIn.inRound l' (callsIn_wide.2 HFC.out)).mono ?_
        rintro e V4 ⟨rfl, hb4⟩
        have y2 := cell_later hb4 y2
        have yl := cell_later hb4 yl
        have hs4 := hb4.size
        have HI4 := Lib.hid (HI2.out.below hb4)
        have nD : ¬ (D = V4.heap.size) := by omega
        have nW : ¬ (w.heap.size = V4.heap.size) := by omega
        have nL : ¬ (l = V4.heap.size) := by omega
        have lD : D < V4.heap.size := by omega
        have lW : w.heap.size < V4.heap.size := by omega
        have lL : l < V4.heap.size := by omega
        have fD := frozen_of_row V4 D 0 _ _ HI4.out.vD
        have HB4 := Lib.hid hb4
        clear hb4
        by_cases hia : n < at'
        · obtain ⟨X, hX⟩ : ∃ X, X = ix (fA a o n') ps at' (n + 1) := ⟨_, rfl⟩
          have hXe : ix (fA a o n') ps at' n = X + 1 := by rw [hX, HST.out, if_pos hia]
          have hX3 : X ≤ 1000 := by omega
          have y5 : V4.cell? ⟨D, 0, none⟩ = some (.int .i64 ((X : Int) + 1)) := (cell_of_row V4 _ 0 _ _ _ HI4.out.vD).trans (by rw [hXe]; simp)
          have hw : IntKind.i64.wrap ((X : Int) + 1 - 1) = (X : Int) := by rw [IntKind.wrap_i64]; omega
          have HXX := Lib.hid (And.intro hX hXe)
          have hia' : (n : Int) < (at' : Int) := by omega
          clear hX hXe hix
          gi_wp2
          refine name_post ?_
          intro W hW
          have hW : W = (V4.setCell ⟨D, 0, none⟩ (.int .i64 (X : Int))).alloc (.cells #[.int .i64 z1, .int .i64 z2] 31) := hW
          have hF : Fr (fun k => k = D) V4 W := by rw [hW]; exact (Fr.setCell (S := fun k => k = D) (p := ⟨D, 0, none⟩) (Fr.refl _ V4) (fun _ => rfl) _).alloc _
          have hF2 : Fr (fun k => k = D) V2 W := (Fr.ofBelow HB4.out _).trans hF
          have hD2 : W.heap[D]? = some (.cells #[.int .i64 (ix (fA a o n') ps at' (n + 1) : Nat)] 3 (0, 0)) := by
            rw [hW, ← HXX.out.1]
            exact (Below.heap_alloc _ _ D (by simpa [World.setCell] using lD)).trans ((heap_setCell_same _ D 0 _ _ (.int .i64 (X : Int)) HI4.out.vD).trans (by simp))
          refine ⟨Keep.ofFr hF2 hsz2 (fun k e => .inl (by omega)), hF2.mono (fun _ _ e => .inl (.inr e)), ?_⟩
          have hR := HI4.out.skip hF hD2 HRP.out mPD (by omega)
          show Rp w Wi P D (Wi.heap.size + 6) (fA a o n') ps at' (pre ++ [(n, (q1, q2))]).length W
          rw [HPN.out]
          exact hR
        · have hia' : ¬ ((n : Int) < (at' : Int)) := by omega
          have hST : ix (fA a o n') ps at' n = ix (fA a o n') ps at' (n + 1) := by have := HST.out; rw [if_neg hia] at this; omega
          have HST2 := Lib.hid hST
          clear hST
          gi_wp2
          refine name_post ?_
          intro W hW
          have hW : W = V4.alloc (.cells #[.int .i64 z1, .int .i64 z2] 31) := hW
          have hF : Fr (fun k => k = D) V4 W := by rw [hW]; exact (Fr.refl _ V4).alloc _
          have hF2 : Fr (fun k => k = D) V2 W := (Fr.ofBelow HB4.out _).trans hF
          have hD2 : W.heap[D]? = some (.cells #[.int .i64 (ix (fA a o n') ps at' (n + 1) : Nat)] 3 (0, 0)) := by
            rw [hW, ← HST2.out]
            exact (Below.heap_alloc V4 (.cells #[.int .i64 z1, .int .i64 z2] 31) D lD).trans HI4.out.vD
          refine ⟨Keep.ofFr hF2 hsz2 (fun k e => .inl (by omega)), hF2.mono (fun _ _ e => .inl (.inr e)), ?_⟩
          have hR := HI4.out.skip hF hD2 HRP.out mPD (by omega)
          show Rp w Wi P D (Wi.heap.size + 6) (fA a o n') ps at' (pre ++ [(n, (q1, q2))]).length W
          rw [HPN.out]
          exact hR
      | some v =>
        have hstep := ix_some (at' := at') hn3 (v := v) (by rw [hqn]; exact hfe)
        have hrep := rep_some hn3 (v := v) (by rw [hqn]; exact hfe)
        rw [hfe, fA_some hfe] at hfc
        dsimp only [Option.isSome] at hfc
        obtain ⟨v1, v2⟩ := v
        have HFC := Lib.hid hfc
        have HST := Lib.hid hstep
        have HRP := Lib.hid hrep
        clear hfc hstep hrep hfe hqn
        gi_wp2_with fail
        refine ⟨trivial, ?_⟩
        refine (CallsIn.inRound l' (callsIn_wide.2 HFC.out)).mono ?_
        rintro e V4 ⟨rfl, hb4⟩
        have y4 := cell_later hb4 y4
        have hs4 := hb4.size
        have HI4 := Lib.hid (HI2.out.below hb4)
        obtain ⟨V5, hV5⟩ : ∃ V5, V5 = V4.alloc (.cells #[.int .i64 v1, .int .i64 v2] 31) := ⟨_, rfl⟩
        have hb5 : Below V4.heap.size V4 V5 := by rw [hV5]; exact (Below.refl _ V4).alloc (Nat.le_refl _) _
        have s5 : V5.heap.size = V4.heap.size + 1 := by rw [hV5]; simp
        have p5 : PosAt V5 V4.heap.size v1 v2 := by rw [hV5]; exact PosAt.new _ _ _
        have y4 := cell_later hb5 y4
        have HI5 := Lib.hid (HI4.out.below hb5)
        obtain ⟨r5, hv4, hr5⟩ := HI4.out.vec
        have hv5 := hv4.fr (Fr.ofBelow hb5 (fun _ => False)) (by simp) (by simp)
        have hm := hv5
        have hln : ((ps.take n).filterMap (fA a o n')).length ≤ 1000 := by
          have h1 := List.length_filterMap_le (fA a o n') (ps.take n)
          have h2 : (ps.take n).length ≤ ps.length := by rw [List.length_take]; omega
          omega
        have hlen : ∀ W, Below V5.heap.size V5 W → Calls Try.prog 22 #[.pointer (some ⟨P, 0, none⟩)] W fun e w' => e = .returned (.int .i64 ((ps.take n).filterMap (fA a o n')).length) ∧ W = w' := fun W hW => VecQ.len_any w.heap.size P r5 _ _ W (hv5.fr (Fr.ofBelow hW (fun _ => False)) (by simp) (by simp))
        have hins : ∀ W, Below V5.heap.size V5 W → ∀ sv, SrcV W 2 sv 1 [.int .i64 v1, .int .i64 v2] → (∀ j, blk sv = some j → r5 ≠ some j) → Calls Try.prog 21 #[.pointer (some ⟨P, 0, none⟩), .int .i64 ((ps.take n).filterMap (fA a o n')).length, sv] W fun e w' => e = .returned (.bool true) ∧
            ∃ r', IsVec w' w.heap.size VT VE 2 P r' (((ps.take n).filterMap (fA a o n')).length + 1) (Ps.flat ((ps.take n).filterMap (fA a o n')) ++ [.int .i64 v1, .int .i64 v2]) ∧ Fr (fun b => b = P ∨ r5 = some b) W w' ∧ (r' = r5 ∨ ∃ g, r' = some g ∧ W.heap.size ≤ g) :=
          fun W hW sv hsv hbl => VecQ.insert_end w.heap.size P r5 _ _ sv 1 _ W (hv5.fr (Fr.ofBelow hW (fun _ => False)) (by simp) (by simp)) (Ps.flat_cells _) hsv (fun _ => hbl) (by omega) (by omega) (by omega)
        have HLEN := Lib.hid hlen
        have HINS := Lib.hid hins
        have HV5 := Lib.hid hV5
        have HR5 := Lib.hid hr5
        have HVV := Lib.hid hv5
        have q0 := p5.c0
        have q1' := p5.c1
        have HRL := Lib.hid (show ∀ k, r5 = some k → k < V4.heap.size from fun k e => (hv4.rowLt k e).2)
        have HB45 := Lib.hid hb4
        have HB5 := Lib.hid (hb5.mono hs4)
        clear hlen hins hV5 hr5 hv5 hv4 hm p5 hb4 hb5
        gi_wp2_with fail
        rw [← HV5.out]
        have F_4 := fun (C : World → Prop) (hC : Vs.Grows (fun k => k = P ∨ r5 = some k) V5 C) (z : Vs.In C) => hC.cell y4 (fun e => Or.elim e (fun e => mPA e.symm) (fun e => by have := HR5.out _ e; simp only at this; omega)) z
        have F_q0 := fun (C : World → Prop) (hC : Vs.Grows (fun k => k = P ∨ r5 = some k) V5 C) (z : Vs.In C) => hC.cell q0 (fun e => Or.elim e (fun e => by simp only at e; omega) (fun e => by have := HRL.out _ e; simp only at this; omega)) z
        have F_q1 := fun (C : World → Prop) (hC : Vs.Grows (fun k => k = P ∨ r5 = some k) V5 C) (z : Vs.In C) => hC.cell q1' (fun e => Or.elim e (fun e => by simp only at e; omega) (fun e => by have := HRL.out _ e; simp only at this; omega)) z
        have HR8 := Lib.hid hmx
        clear y2 y3 y4 y5 yl q0 q1' hmx
        refine Vs.wpIn_round_tree (S := (fun k => k = P ∨ r5 = some k)) [] (.fork ([0, 1, 3].map (fun i => (i, 0)) ++ []) 2 4 (.path [(4, 1), (5, 1)]) (.path [(2, 1), (5, 1)])) HR8.out (by kernel_rfl) (by rintro ⟨_, _, h⟩; exact h) (by kernel_rfl) ?_
        refine Vs.wpTr_fork (Vs.wpPath_on [0, 1, 3] 51 rfl (by kernel_rfl) ?_)
        simp only [List.map_cons, List.map_nil, Vs.opOf_succ, Vs.opOf_zero]
        apply Exists.intro
        refine ⟨fun C hC => ?_, ?_⟩
        · haveI hI := hC.one
          have f_4 := F_4 C hC
          have f_q0 := F_q0 C hC
          have f_q1 := F_q1 C hC
          repeat (go_big_quiet_step (fail))
          exact wpQuiet_nil rfl
        clear F_4 F_q0 F_q1
        intro u hu
        have hsu := hu.size
        refine ⟨?_, ?_⟩
        · intro u hu9
          have hu := hu.trans (hu9.mono hsu)
          have hsu := Nat.le_trans hsu hu9.size
          refine Vs.fork_call (f := 22) (args := #[.pointer (some ⟨P, 0, none⟩)]) rfl rfl (by simp only [Vs.opOf_succ, Vs.opOf_zero]; go_simp) ?_
          refine (HLEN.out _ hu).mono ?_
          rintro e w' ⟨rfl, rfl⟩
          refine ⟨_, rfl, Fr.refl _ _, ?_⟩
          simp only [Vs.opOf_succ, Vs.opOf_zero, Act.put, List.setIfInBounds_toArray, List.set_cons_zero, List.set_cons_succ]
          refine Vs.wpTr_path ?_
          refine Vs.wpPath_make rfl ?_
          intro u hu9
          have hu := hu.trans (hu9.mono hsu)
          have hsu := Nat.le_trans hsu hu9.size
          refine ⟨.slice (some ⟨u.heap.size, 0, none⟩) 1 1, u.alloc (.cells #[.int .i64 v1, .int .i64 v2] 31), rfl, by simp only [Vs.opOf_succ, Vs.opOf_zero]; go_simp, Fr.ofBelow ((Below.refl _ u).alloc (Nat.le_refl _) _) _, ?_⟩
          simp only [Vs.opOf_succ, Vs.opOf_zero, Act.put, List.setIfInBounds_toArray, List.set_cons_zero, List.set_cons_succ]
          have SP := Ps.SrcV.pos u v1 v2 31
          obtain ⟨v, hv⟩ : ∃ v, v = u.alloc (.cells #[.int .i64 v1, .int .i64 v2] 31) := ⟨_, rfl⟩
          have hbv : Below u.heap.size u v := by rw [hv]; exact (Below.refl _ u).alloc (Nat.le_refl _) _
          obtain ⟨gS, hgS⟩ : ∃ g, g = u.heap.size := ⟨_, rfl⟩
          have hgS5 : V5.heap.size ≤ gS := by rw [hgS]; exact hsu
          have hu := hu.trans (hbv.mono hsu)
          have hsu := Nat.le_trans hsu hbv.size
          rw [← hv, ← hgS] at SP ⊢
          clear hv hbv hgS
          refine Vs.wpPath_call (f := 21) (args := #[.pointer (some ⟨P, 0, none⟩), .int .i64 ((ps.take n).filterMap (fA a o n')).length, .slice (some ⟨gS, 0, none⟩) 1 1]) rfl rfl (fun _ => by simp only [Vs.opOf_succ, Vs.opOf_zero]; go_simp) ?_
          intro u2 hu2
          have SP := SP.below hu2
          have hu2 := hu.trans (hu2.mono hsu)
          have hin := HINS.out u2 hu2 _ SP (fun j hj e => by have := HRL.out j e; simp [blk] at hj; omega)
          refine hin.mono ?_
          rintro e W7 ⟨rfl, r7, hv7, hF7, hr7⟩
          refine ⟨_, rfl, hF7, ?_⟩
          simp only [Vs.opOf_succ, Vs.opOf_zero, Act.put, List.setIfInBounds_toArray, List.set_cons_zero, List.set_cons_succ]
          refine Vs.wpPath_end ?_
          intro W hW
          have hlo5 : Wi.heap.size + 6 ≤ V5.heap.size := by omega
          have hFa : Fr (fun k => k = P ∨ r5 = some k) V5 W7 := (Fr.ofBelow hu2 _).trans hF7
          have hF9 : Fr (fun k => k = P ∨ r5 = some k) V5 W := hFa.trans (Fr.ofBelow hW _)
          have hS9 : ∀ k, (k = P ∨ r5 = some k) → k = P ∨ Wi.heap.size + 6 ≤ k := fun k e => e.elim .inl (fun e => .inr (HR5.out k e))
          have hr9 : ∀ k, r7 = some k → Wi.heap.size + 6 ≤ k := fun k e => by
            have := hu2.size
            rcases hr7 with h | ⟨g, h, hg⟩
            · exact HR5.out k (h ▸ e)
            · rw [h] at e; injection e with e; omega
          have hv9 := hv7.fr (Fr.ofBelow hW (fun _ => False)) (by simp) (by simp)
          have hF29 : Fr (fun k => k = P ∨ Wi.heap.size + 6 ≤ k) V2 W := (Fr.ofBelow (HB45.out.trans HB5.out) _).trans' hF9 (fun i _ e => hS9 i e)
          refine ⟨Keep.ofFr hF29 hsz2 (fun k e => by omega), hF29.mono (fun k _ e => e.elim (fun e => .inl (.inl e)) (fun e => .inr (by omega))), ?_⟩
          have hR := HI5.out.add hF9 hS9 HST.out HRP.out mPD (by omega) (by omega) hv9 hr9
          show Rp w Wi P D (Wi.heap.size + 6) (fA a o n') ps at' (pre ++ [(n, (q1, q2))]).length W
          rw [HPN.out]
          exact hR
        · intro u hu9
          have hu := hu.trans (hu9.mono hsu)
          have hsu := Nat.le_trans hsu hu9.size
          refine Vs.fork_make (W' := u.alloc (.cells #[.int .i64 v1, .int .i64 v2] 31)) (u := .slice (some ⟨u.heap.size, 0, none⟩) 1 1) rfl rfl (by simp only [Vs.opOf_succ, Vs.opOf_zero]; go_simp) ?_
          refine ⟨Fr.ofBelow ((Below.refl _ u).alloc (Nat.le_refl _) _) _, ?_⟩
          simp only [Vs.opOf_succ, Vs.opOf_zero, Act.put, List.setIfInBounds_toArray, List.set_cons_zero, List.set_cons_succ]
          have SP := Ps.SrcV.pos u v1 v2 31
          obtain ⟨v, hv⟩ : ∃ v, v = u.alloc (.cells #[.int .i64 v1, .int .i64 v2] 31) := ⟨_, rfl⟩
          have hbv : Below u.heap.size u v := by rw [hv]; exact (Below.refl _ u).alloc (Nat.le_refl _) _
          obtain ⟨gS, hgS⟩ : ∃ g, g = u.heap.size := ⟨_, rfl⟩
          have hgS5 : V5.heap.size ≤ gS := by rw [hgS]; exact hsu
          have hu := hu.trans (hbv.mono hsu)
          have hsu := Nat.le_trans hsu hbv.size
          rw [← hv, ← hgS] at SP ⊢
          clear hv hbv hgS
          refine Vs.wpTr_path ?_
          refine Vs.wpPath_call (f := 22) (args := #[.pointer (some ⟨P, 0, none⟩)]) rfl rfl (fun _ => by simp only [Vs.opOf_succ, Vs.opOf_zero]; go_simp) ?_
          intro u hu9
          have hu := hu.trans (hu9.mono hsu)
          have hsu := Nat.le_trans hsu hu9.size
          have SP := SP.below hu9
          refine (HLEN.out _ hu).mono ?_
          rintro e w' ⟨rfl, rfl⟩
          refine ⟨_, rfl, Fr.refl _ _, ?_⟩
          simp only [Vs.opOf_succ, Vs.opOf_zero, Act.put, List.setIfInBounds_toArray, List.set_cons_zero, List.set_cons_succ]
          refine Vs.wpPath_call (f := 21) (args := #[.pointer (some ⟨P, 0, none⟩), .int .i64 ((ps.take n).filterMap (fA a o n')).length, .slice (some ⟨gS, 0, none⟩) 1 1]) rfl rfl (fun _ => by simp only [Vs.opOf_succ, Vs.opOf_zero]; go_simp) ?_
          intro u2 hu2
          have SP := SP.below hu2
          have hu2 := hu.trans (hu2.mono hsu)
          have hin := HINS.out u2 hu2 _ SP (fun j hj e => by have := HRL.out j e; simp [blk] at hj; omega)
          refine hin.mono ?_
          rintro e W7 ⟨rfl, r7, hv7, hF7, hr7⟩
          refine ⟨_, rfl, hF7, ?_⟩
          simp only [Vs.opOf_succ, Vs.opOf_zero, Act.put, List.setIfInBounds_toArray, List.set_cons_zero, List.set_cons_succ]
          refine Vs.wpPath_end ?_
          intro W hW
          have hlo5 : Wi.heap.size + 6 ≤ V5.heap.size := by omega
          have hFa : Fr (fun k => k = P ∨ r5 = some k) V5 W7 := (Fr.ofBelow hu2 _).trans hF7
          have hF9 : Fr (fun k => k = P ∨ r5 = some k) V5 W := hFa.trans (Fr.ofBelow hW _)
          have hS9 : ∀ k, (k = P ∨ r5 = some k) → k = P ∨ Wi.heap.size + 6 ≤ k := fun k e => e.elim .inl (fun e => .inr (HR5.out k e))
          have hr9 : ∀ k, r7 = some k → Wi.heap.size + 6 ≤ k := fun k e => by
            have := hu2.size
            rcases hr7 with h | ⟨g, h, hg⟩
            · exact HR5.out k (h ▸ e)
            · rw [h] at e; injection e with e; omega
          have hv9 := hv7.fr (Fr.ofBelow hW (fun _ => False)) (by simp) (by simp)
          have hF29 : Fr (fun k => k = P ∨ Wi.heap.size + 6 ≤ k) V2 W := (Fr.ofBelow (HB45.out.trans HB5.out) _).trans' hF9 (fun i _ e => hS9 i e)
          refine ⟨Keep.ofFr hF29 hsz2 (fun k e => by omega), hF29.mono (fun k _ e => e.elim (fun e => .inl (.inl e)) (fun e => .inr (by omega))), ?_⟩
          have hR := HI5.out.add hF9 hS9 HST.out HRP.out mPD (by omega) (by omega) hv9 hr9
          show Rp w Wi P D (Wi.heap.size + 6) (fA a o n') ps at' (pre ++ [(n, (q1, q2))]).length W
          rw [HPN.out]
          exact hR
    case done =>
      rintro D' V hD hI hk
      rw [List.length_map, List.length_range] at hI
      have f2 : ∀ k, k < Wi.heap.size → k ≠ P → k ≠ D → V.heap[k]? = Wi.heap[k]? := fun k hk h1 h2 => hI.fr.block k hk (by rintro (h | h) <;> omega)
      have y2 : V.cell? ⟨w.heap.size, 0, none⟩ = some (.pointer (some ⟨l, 0, none⟩)) := (cell_of_row V _ 0 _ _ _ ((f2 _ (by omega) (by omega) (by omega)).trans ((bi.block _ (by omega)).trans HVL.out.1))).trans (by simp)
      have y4 : V.cell? ⟨A, 0, none⟩ = some (.pointer (some ⟨P, 0, none⟩)) := (cell_of_row V _ 0 _ _ _ ((f2 _ (by omega) (by omega) (by omega)).trans ((bi.block _ (by omega)).trans HVL.out.2.2.2.1))).trans (by simp)
      have y5 : V.cell? ⟨D, 0, none⟩ = some (.int .i64 (ix (fA a o n') ps at' ps.length : Nat)) := (cell_of_row V _ 0 _ _ _ hI.vD).trans (by simp)
      have hL := (f2 l (by omega) (by omega) (by omega)).trans ((bw.block l (by omega)).trans H1.out)
      have yl0 : V.cell? ⟨l, 0, none⟩ = some (.pointer (some ⟨p, 0, none⟩)) := (cell_of_row V _ 0 _ _ _ hL).trans (by simp)
      have yl1 : V.cell? ⟨l, 1, none⟩ = some (.int .i64 at') := (cell_of_row V _ 1 _ _ _ hL).trans (by simp)
      have fl0 := frozen_of_row V l 0 _ _ hL
      have fl1 := frozen_of_row V l 1 _ _ hL
      have HIX := Lib.hid (ix_end (fA a o n') ps at' hat)
      have HI := Lib.hid hI
      have HK := Lib.hid hk
      have HL := Lib.hid hL
      obtain ⟨X, hX⟩ : ∃ X, X = ix (fA a o n') ps at' ps.length := ⟨_, rfl⟩
      have HX := Lib.hid hX
      rw [← hX] at y5
      have nD2 : ¬ (l = D) := by omega
      have nW2 : ¬ (l = w.heap.size) := by omega
      have nA2 : ¬ (l = A) := by omega
      clear f2 hI hk hL hX
      gi_wp2
      gi_region
      all_goals gi_wp2
      all_goals
        refine name_post ?_
        intro W0 hW0
        have hW0 : W0 = ((V.setCell ⟨l, 0, none⟩ (.pointer (some ⟨P, 0, none⟩))).setCell ⟨l, 1, none⟩ (.int .i64 (X : Int))).drew := hW0
        have hL0 : W0.heap[l]? = some (.cells #[.pointer (some ⟨P, 0, none⟩), .int .i64 (X : Int)] LT (0, 0)) := by
          rw [hW0]
          have h1 := heap_setCell_same V l 0 _ _ (.pointer (some ⟨P, 0, none⟩)) HL.out
          exact (heap_setCell_same _ l 1 _ _ (.int .i64 (X : Int)) h1).trans (by simp)
        have hF0 : Fr (fun k => k = l) V W0 := by
          rw [hW0]
          exact (Fr.setCell (S := fun k => k = l) (p := ⟨l, 1, none⟩) (Fr.setCell (S := fun k => k = l) (p := ⟨l, 0, none⟩) (Fr.refl _ V) (fun _ => rfl) _) (fun _ => rfl) _).drew
        have hDV : D' < V.heap.size := (Array.getElem?_eq_some_iff.1 HK.out).1
        have hk0 : W0.heap[D']? = some (.deferred (some [])) := (hF0.block D' hDV (by omega)).trans HK.out
        clear hW0
        refine ⟨by simp, .inl ⟨_, _, rfl, run_takeDeferred hk0, ?_⟩⟩
        have hF1 : Fr (fun k => k = l ∨ k = D') V (W0.putObj D' (.deferred none)) := (hF0.mono (fun _ _ e => .inl e)).grown (grownBy_putObj' W0 D' _) (fun k e _ => by cases e; exact .inr rfl)
        obtain ⟨hfr, hvd, r', hv, hr⟩ := HI.out
        refine ⟨_, results_none rfl _ _ _, rfl, P, r', ⟨?_, ?_, by omega, ?_⟩, ?_⟩
        · rw [← HIX.out, ← HX.out]
          exact (World.putObj_heap_other (by omega)).trans hL0
        · rw [List.take_length] at hv
          refine hv.fr hF1 (by omega) (fun k e => ?_)
          have h1 := hr k e
          rintro (h | h)
          · omega
          · obtain ⟨cs, hcs⟩ := vec_cells hv k e
            rw [h, HK.out] at hcs
            cases hcs
        · intro e
          have h1 := hr l e
          omega
        · have hA : Fr (fun k => k = l) w V := (Fr.ofBelow bw _).trans' hfr (fun i hi e => by omega)
          exact hA.trans' hF1 (fun i hi e => e.elim id (fun e => by omega))

end Go.Proofs.Ytfclclnlmhbgiaa.Jp
