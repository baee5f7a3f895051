/-
  Ranges over functions at the wide fence: a contract of an iterator that goes through a known list, told of a round only where it is asked; one law for the caller. An iterator that itself ranges over another one can be shown to have it.
-/
import Derived.Test.YtkddnknjjdenhaaKit
import Derived.RangeFuncNested
import Derived.RangeFuncBound
import Derived.RangeFuncCalls
import Derived.RangeFuncLeaves
import Derived.Shelf.Abstract
import Derived.Shelf.RegionOpen
import Derived.OwnWalkIn
import Derived.TacticsInMore
import Derived.LoopNIn
import Derived.LoopIn
set_option linter.unusedVariables false
set_option linter.unusedSimpArgs false
set_option maxRecDepth 100000
namespace Go.Proofs.Ytkddnknjjdenhaa.Vk
open Go Go.RowKit

/-- A postcondition in which no panic is borne: what is asked there hangs on no slot. -/
def noPanic (Q : Exit → Act → World → Prop) : Exit → Act → World → Prop
  | .panic _, _, _ => False
  | .normal, a, w => Q .normal a w
  | .ret, a, w => Q .ret a w
  | .exit i, a, w => Q (.exit i) a w
  | .goto l, a, w => Q (.goto l) a w
  | .outgrown, a, w => Q .outgrown a w
theorem noPanic_out (Q : Exit → Act → World → Prop) : ∀ e a w, noPanic Q e a w → Q e a w := by
  intro e a w h
  cases e <;> first | exact h | exact h.elim

theorem room_wide (k : Nat) : Fence.wide.room k := fun d h => by cases h
/-- Where no depth is asked the figures are all one. -/
theorem roundIn_any {m m' : Nat} {P : Program} {l : Nat} {f : FuncId} {tmps : Array Value} {assign body : Code} {w : World} {R : Ending → World → Prop}
    (h : RoundIn Fence.wide m P l f tmps assign body w R) : RoundIn Fence.wide m' P l f tmps assign body w R := ⟨h.1, fun c cs _ => h.2 c cs (room_wide _)⟩
theorem roundIn_in (l' : Nat) {m m' : Nat} {P : Program} {l : Nat} {f : FuncId} {tmps : Array Value} {assign body : Code} {w : World} {R : Ending → World → Prop}
    (h : RoundIn Fence.wide m P l f tmps assign body w R) : RoundIn (Fence.wide.inRound l') m' P l f tmps assign body w R := ⟨h.1, fun c cs _ => h.2 c cs (room_wide _)⟩
theorem yieldAt_any {m : Nat} (m' : Nat) {P : Program} {l : Nat} {args : Array Value} {W : World} {R : Ending → World → Prop} (h : YieldAt Fence.wide m P l args W R) : YieldAt Fence.wide m' P l args W R := by
  obtain ⟨fn, tmps, assign, body, hy, hR⟩ := h
  exact ⟨fn, tmps, assign, body, hy, roundIn_any hR⟩

/-- The blocks from lo to hi lie as they lay. -/
structure Keep (lo hi : Nat) (W W' : World) : Prop where
  size : W.heap.size ≤ W'.heap.size
  same : ∀ k, lo ≤ k → k < hi → W'.heap[k]? = W.heap[k]?
theorem Keep.refl (lo hi : Nat) (W : World) : Keep lo hi W W := ⟨Nat.le_refl _, fun _ _ _ => rfl⟩
theorem Keep.trans {lo hi : Nat} {A B C : World} (h : Keep lo hi A B) (k : Keep lo hi B C) : Keep lo hi A C := ⟨Nat.le_trans h.size k.size, fun i h1 h2 => (k.same i h1 h2).trans (h.same i h1 h2)⟩
theorem Keep.mono {lo hi lo' hi' : Nat} {A B : World} (h : Keep lo hi A B) (h1 : lo ≤ lo') (h2 : hi' ≤ hi) : Keep lo' hi' A B := ⟨h.size, fun k a b => h.same k (by omega) (by omega)⟩
theorem Keep.drew {lo hi : Nat} {A B : World} (h : Keep lo hi A B) : Keep lo hi A B.drew := ⟨h.size, h.same⟩
theorem Keep.alloc {lo hi : Nat} {A B : World} (h : Keep lo hi A B) (o : Obj) (hh : hi ≤ B.heap.size) : Keep lo hi A (B.alloc o) :=
  ⟨by have := h.size; simp; omega, fun k a b => (Below.heap_alloc _ _ _ (by omega)).trans (h.same k a b)⟩
theorem Keep.setCell {lo hi : Nat} {A B : World} (h : Keep lo hi A B) {p : Addr} (hp : p.block < lo ∨ hi ≤ p.block) (u : Value) : Keep lo hi A (B.setCell p u) :=
  ⟨by have := h.size; simpa [World.setCell] using this, fun k a b => (Below.heap_setCell _ _ _ _ (by omega)).trans (h.same k a b)⟩
theorem Keep.ofFr {S : Nat → Prop} {lo hi : Nat} {A B : World} (h : Fr S A B) (hh : hi ≤ A.heap.size) (hs : ∀ k, S k → k < lo ∨ hi ≤ k) : Keep lo hi A B :=
  ⟨h.size, fun k a b => h.block k (by omega) (fun x => by have := hs k x; omega)⟩

/-- THE CONTRACT: called with a loop body, the iterator g (with what it has captured, lb) gives it the elements of xs one by one. m: how many blocks it lays ahead of the first round, to keep: a round leaves them alone. Kp: what a round that goes on keeps besides, the iterator's own choice. The caller's words J, Jx bear that blocks beyond the heap which are no cells are laid or turned. -/
def Iter {α : Type} (P : Program) (g : Nat) (lb : Array Value) (encs : α → Array Value) (m : Nat) (Kp : World → World → Prop) (xs : List α) (w : World) : Prop :=
  ∀ (l : Nat) (J Jx : List α → World → Prop) (W : World), Below w.heap.size w W → OwnFrom W.heap.size J → OwnFrom W.heap.size Jx →
    (∀ pre x W1, (∃ rest, xs = pre ++ x :: rest) → W.heap.size + m ≤ W1.heap.size → J pre W1 → YieldAt Fence.wide 9 P l (encs x) W1 fun e W' =>
      Keep W.heap.size (W.heap.size + m) W1 W' ∧ ((e = .returned (.bool true) ∧ J (pre ++ [x]) W' ∧ Kp W1 W') ∨ (e = .returned (.bool false) ∧ Jx (pre ++ [x]) W'))) →
    J [] W →
    CallsIn Fence.wide 9 P g (#[.func (.yield l) #[] #[]] ++ lb) W fun e W' => (∃ v, e = .returned v) ∧ (J xs W' ∨ ∃ pre, pre <+: xs ∧ pre ≠ [] ∧ Jx pre W')

theorem Iter.later {α : Type} {P : Program} {g : Nat} {lb : Array Value} {encs : α → Array Value} {m : Nat} {Kp : World → World → Prop} {xs : List α} {w w' : World} (h : Iter P g lb encs m Kp xs w) (hb : Below w.heap.size w w') : Iter P g lb encs m Kp xs w' :=
  fun l J Jx W hW hJ hJx hY h0 => h l J Jx W (hb.trans (hW.mono hb.size)) hJ hJx hY h0

/-- What a loop body must achieve in a round. -/
def iterPost {α : Type} (lo hi : Nat) (Kp : World → World → Prop) (I : List α → World → Prop) (Ix : Code → List α → World → Prop) (xs : List α) (W : World) : Exit → Act → World → Prop
  | .normal, _, W' => Keep lo hi W W' ∧ Kp W W' ∧ I xs W'
  | .ret, _, W' => Keep lo hi W W' ∧ Ix .ret xs W'
  | .exit id, _, W' => Keep lo hi W W' ∧ Ix (.exit id) xs W'
  | .goto t, _, W' => Keep lo hi W W' ∧ Ix (.goto t) xs W'
  | .panic _, _, _ => False
  | .outgrown, _, _ => False

theorem ownFrom_mono {β : Type} {B B' : Nat} {I : β → World → Prop} (h : OwnFrom B I) (hB : B ≤ B') : OwnFrom B' I :=
  fun s W W' row hs hg hr => h s W W' row hs hg (fun r e => ⟨Nat.le_trans hB (hr r e).1, (hr r e).2⟩)

/-- What speaks of blocks below B alone is OwnFrom B. -/
theorem ownFrom_below' {β : Type} (B : Nat) (I : β → World → Prop) (h : ∀ s W W', I s W → Below B W W' → W.heap.size ≥ B → I s W') (hB : ∀ s W, I s W → B ≤ W.heap.size) : OwnFrom B I :=
  fun s W W' row hs hg hr => h s W W' hs ((Below.refl B W).grown hg (hB s W hs) (fun k e => (hr k e).1)) (hB s W hs)

variable {P : Program} {w : World}
/-- THE LAW FOR THE CALLER (a loop outside of every other). -/
theorem rangeFunc_iter {α : Type} {g : Operand} {ps : Array Tmp} {assign body : Code} {Q : Exit → Act → World → Prop} {a : Act} {n : Nat}
    (h1 : 1 ≤ n) {gf : Nat} {lb : Array Value} (hg : a.eval g = .func (.func gf) #[] lb) (eg : ∀ args w, (callFunc gf args).run P w = .ok (.enter gf args) w)
    {encs : α → Array Value} {m : Nat} {Kp : World → World → Prop} {xs : List α} {w0 : World} (hseq : Iter P gf lb encs m Kp xs w0)
    (hKt : ∀ {A B C : World}, Kp A B → Kp B C → Kp A C) (hKb : ∀ (W : World) (l : Nat) (o o' : Obj), w.heap.size ≤ l → W.heap[l]? = some o → o.isCells = false → o.isWalk = false → Kp W (W.putObj l o')) (hb0 : Below w0.heap.size w0 w) (hps : ∀ x, (encs x).size = ps.size)
    (I : List α → World → Prop) (Ix : Code → List α → World → Prop) (hI : OwnFrom w.heap.size I) (hIx : ∀ c, OwnFrom w.heap.size (Ix c)) (h0 : I [] w)
    (hround : ∀ (l : Nat) (pre : List α) (x : α) (V : World), (∃ rest, xs = pre ++ x :: rest) → w.heap.size + 2 + m ≤ V.heap.size → I pre V →
      assign.wpIn (Fence.wide.inRound l) 9 P (Exit.then (fun a' V' => Keep w.heap.size (w.heap.size + 2 + m) V V' ∧ Kp V V' ∧ I pre V' ∧
        ∀ V2, V'.grownBy V2 (some l) → (w.heap.size ≤ l ∧ l < w.heap.size + 2) → (∃ r, V2.heap[l]? = some (.loop r)) → w.heap.size + 2 + m ≤ V2.heap.size → I pre V2 →
          body.wpIn (Fence.wide.inRound l) 9 P (iterPost w.heap.size (w.heap.size + 2 + m) Kp I Ix (pre ++ [x]) V2) a' V2) (fun _ _ _ => False))
        { tmps := (ps.zip (encs x)).foldl (fun t (p, v) => t.setIfInBounds p v) a.tmps, defers := [] } V)
    (hdone : ∀ (D : Nat) (W : World), w.heap.size ≤ D → I xs W → W.heap[D]? = some (.deferred (some [])) → Q .normal { a with defers := { target := .collected D, args := #[] } :: a.defers } W)
    (hstop : ∀ (D : Nat) (c : Code) (pre : List α) (W : World), w.heap.size ≤ D → pre <+: xs → pre ≠ [] → Ix c pre W → W.heap[D]? = some (.deferred (some [])) → c.wpIn Fence.wide n P Q { a with defers := { target := .collected D, args := #[] } :: a.defers } W) :
    (Code.rangeFunc g ps assign body).wpIn Fence.wide n P Q a w := by
  refine wpIn_rangeFunc ?_
  intro fn hfn
  obtain ⟨rec, hrec⟩ : ∃ rec : LoopState → Option Code → Loop, rec = fun st pe => { state := st, pending := pe, fn, tmps := a.tmps, params := ps, assign, body, defers := w.heap.size } := ⟨_, rfl⟩
  obtain ⟨W1, hW1⟩ : ∃ W1, (w.alloc (.deferred (some []))).alloc (.loop (rec .ready none)) = W1 := ⟨_, rfl⟩
  have hs1 : W1.heap.size = w.heap.size + 2 := by rw [← hW1]; simp
  have hL1 : W1.heap[w.heap.size + 1]? = some (.loop (rec .ready none)) := by
    rw [← hW1]; have := World.alloc_heap_new (w.alloc (.deferred (some []))) (.loop (rec .ready none)); rwa [World.size_alloc] at this
  have hK1 : W1.heap[w.heap.size]? = some (.deferred (some [])) := by
    rw [← hW1]; exact (Below.heap_alloc _ _ _ (by simp)).trans (World.alloc_heap_new w _)
  have hI1 : I [] W1 := by rw [← hW1]; exact hI.alloc _ (hI.alloc _ h0)
  have hb1 : Below w0.heap.size w0 W1 := by
    rw [← hW1]; exact hb0.trans ((((Below.refl _ w).alloc (Nat.le_refl _) _).alloc (by simp) _).mono hb0.size)
  refine ⟨w.heap.size + 1, [{ target := .collected w.heap.size, args := #[] }], W1, { target := .fn (.func gf) lb, args := #[.func (.yield (w.heap.size + 1)) #[] #[]] }, W1, gf,
    #[.func (.yield (w.heap.size + 1)) #[] #[]] ++ lb, W1, ?_, ?_, ?_, ?_, fun _ => h1, ?_⟩
  · rw [← hW1, hrec]; exact run_enterLoop_outer _ _ _ _ _
  · simp only [resolve, hg]
    simp [go_sem]
  · intro f' hf'; trivial
  · simp [invoke, go_sem, eg]
  · have key : ∀ {A B : World} {row : Option Nat} {k : Nat} {o : Obj}, A.grownBy B row → (∀ r, row = some r → W1.heap.size ≤ r ∧ ∃ o : Obj, A.heap[r]? = some o ∧ o.isCells = false) → k < w.heap.size + 2 → A.heap[k]? = some o → B.heap[k]? = some o :=
      fun hg' hr hk ho => (hg'.block _ (Array.getElem?_eq_some_iff.1 ho).1 (fun e => by have := (hr _ e.symm).1; omega)).trans ho
    have hnw : ∀ {A B : World} {row : Option Nat}, (∀ r, row = some r → W1.heap.size ≤ r ∧ ∃ o : Obj, A.heap[r]? = some o ∧ o.isCells = false) → (∀ r, row = some r → w.heap.size ≤ r ∧ ∃ o : Obj, A.heap[r]? = some o ∧ o.isCells = false) :=
      fun hr r e => ⟨by have := (hr r e).1; omega, (hr r e).2⟩
    have hcall := (hseq (w.heap.size + 1)
      (fun pre W => I pre W ∧ W.heap[w.heap.size + 1]? = some (.loop (rec .ready none)) ∧ W.heap[w.heap.size]? = some (.deferred (some [])))
      (fun pre W => ∃ c, Ix c pre W ∧ W.heap[w.heap.size + 1]? = some (.loop (rec .done (some c))) ∧ W.heap[w.heap.size]? = some (.deferred (some [])))
      W1 hb1
      (fun s A B row hs hg' hr => ⟨hI s A B row hs.1 hg' (hnw (B := B) hr), key hg' hr (by omega) hs.2.1, key hg' hr (by omega) hs.2.2⟩)
      (fun s A B row hs hg' hr => by
        obtain ⟨c, hc, hl, hk⟩ := hs
        exact ⟨c, hIx c s A B row hc hg' (hnw (B := B) hr), key hg' hr (by omega) hl, key hg' hr (by omega) hk⟩)
      ?_ ⟨hI1, hL1, hK1⟩).mono (R' := rangePost Fence.wide n P (w.heap.size + 1) Q { a with defers := [{ target := .collected w.heap.size, args := #[] }] ++ a.defers }) ?_
    · exact callsIn_wide.2 (callsIn_wide.1 hcall)
    · -- one round
      rintro pre x W hpx hsz ⟨hi, hl, hk⟩
      rw [hs1] at hsz
      have hlt : w.heap.size + 1 < W.heap.size := (Array.getElem?_eq_some_iff.1 hl).1
      have hy := run_yield (P := P) (args := encs x) hl (by rw [hrec]; exact hps x)
      rw [hrec] at hy
      refine ⟨fn, _, assign, body, hy, roundIn_of_wpIn hfn (wpIn_mono (hround (w.heap.size + 1) pre x W hpx hsz hi) ?_)⟩
      clear hy
      rintro e0 a' Wa hp0
      cases e0 with
      | normal =>
       obtain ⟨hkfa, hkpa, hia, hbody⟩ := hp0
       replace hl := (hkfa.same _ (by omega) (by omega)).trans hl
       replace hk := (hkfa.same _ (Nat.le_refl _) (by omega)).trans hk
       replace hlt : w.heap.size + 1 < Wa.heap.size := (Array.getElem?_eq_some_iff.1 hl).1
       have hsza := Nat.le_trans hsz hkfa.size
       have hl2 : (Wa.putObj (w.heap.size + 1) (.loop { rec .ready none with state := .busy })).heap[w.heap.size + 1]? = some (.loop { rec .ready none with state := .busy }) := World.putObj_heap_same hlt
       have hk2 : (Wa.putObj (w.heap.size + 1) (.loop { rec .ready none with state := .busy })).heap[w.heap.size]? = some (.deferred (some [])) := (World.putObj_heap_other (by omega)).trans hk
       have hw2 : Kp Wa (Wa.putObj (w.heap.size + 1) (.loop { rec .ready none with state := .busy })) := hKb _ _ _ _ (by omega) hl rfl rfl
       have kp : ∀ (X : World) (o : Obj), Keep (w.heap.size + 2) (w.heap.size + 2 + m) X (X.putObj (w.heap.size + 1) o) := fun X o => ⟨by simp, fun k h1 _ => World.putObj_heap_other (by omega)⟩
       refine ⟨_, run_beginRound hl (by rw [hrec]), ?_⟩
       refine wpIn_mono (hbody _ (grownBy_putObj' _ _ _) ⟨by omega, by omega⟩ ⟨_, hl2⟩ (by simpa using hsza) (hI.putObj _ hia (by omega) hl rfl)) ?_
       have fin : ∀ (jump : Option Code) (W3 : World), Keep w.heap.size (w.heap.size + 2 + m) (Wa.putObj (w.heap.size + 1) (.loop { rec .ready none with state := .busy })) W3 →
           (Instr.endRound (w.heap.size + 1) jump).run P W3 = .ok (.bool jump.isNone) (W3.putObj (w.heap.size + 1) (.loop (rec (if jump.isNone then .ready else .done) jump))) ∧
           W3.heap[w.heap.size + 1]? = some (.loop { rec .ready none with state := .busy }) ∧
           (W3.putObj (w.heap.size + 1) (.loop (rec (if jump.isNone then .ready else .done) jump))).heap[w.heap.size + 1]? = some (.loop (rec (if jump.isNone then .ready else .done) jump)) ∧
           (W3.putObj (w.heap.size + 1) (.loop (rec (if jump.isNone then .ready else .done) jump))).heap[w.heap.size]? = some (.deferred (some [])) ∧
           Keep (w.heap.size + 2) (w.heap.size + 2 + m) W (W3.putObj (w.heap.size + 1) (.loop (rec (if jump.isNone then .ready else .done) jump))) := fun jump W3 hk3 => by
         have hl3 := (hk3.same (w.heap.size + 1) (by omega) (by omega)).trans hl2
         have := run_endRound (P := P) jump hl3
         rw [hrec] at this ⊢
         exact ⟨this, by rw [hrec] at hl3; exact hl3, World.putObj_heap_same (Array.getElem?_eq_some_iff.1 hl3).1, (World.putObj_heap_other (by omega)).trans ((hk3.same _ (Nat.le_refl _) (by omega)).trans hk2),
           (hkfa.mono (by omega) (Nat.le_refl _)).trans ((kp _ _).trans ((hk3.mono (by omega) (Nat.le_refl _)).trans (kp _ _)))⟩
       rintro e a3 W3 hp
       rw [hs1]
       cases e with
       | normal =>
         obtain ⟨hk3, hkp3, hi3⟩ := hp
         obtain ⟨hr, hl3, hl4, hk4, hkk⟩ := fin none W3 hk3
         exact ⟨_, _, hr, hkk, .inl ⟨rfl, ⟨hI.putObj _ hi3 (by omega) hl3 rfl, hl4, hk4⟩, hKt hkpa (hKt (hKt hw2 hkp3) (hKb _ _ _ _ (by omega) hl3 rfl rfl))⟩⟩
       | ret =>
         obtain ⟨hk3, hi3⟩ := hp
         obtain ⟨hr, hl3, hl4, hk4, hkk⟩ := fin (some .ret) W3 hk3
         exact ⟨_, _, hr, hkk, .inr ⟨rfl, .ret, (hIx _).putObj _ hi3 (by omega) hl3 rfl, hl4, hk4⟩⟩
       | exit id =>
         obtain ⟨hk3, hi3⟩ := hp
         obtain ⟨hr, hl3, hl4, hk4, hkk⟩ := fin (some (.exit id)) W3 hk3
         exact ⟨_, _, hr, hkk, .inr ⟨rfl, .exit id, (hIx _).putObj _ hi3 (by omega) hl3 rfl, hl4, hk4⟩⟩
       | goto t =>
         obtain ⟨hk3, hi3⟩ := hp
         obtain ⟨hr, hl3, hl4, hk4, hkk⟩ := fin (some (.goto t)) W3 hk3
         exact ⟨_, _, hr, hkk, .inr ⟨rfl, .goto t, (hIx _).putObj _ hi3 (by omega) hl3 rfl, hl4, hk4⟩⟩
       | panic ch => exact hp.elim
       | outgrown => exact hp.elim
      | ret => exact hp0
      | exit i => exact hp0
      | goto i => exact hp0
      | panic i => exact hp0
      | outgrown => exact hp0
    · -- behind the iterator
      rintro e W2 ⟨⟨v, rfl⟩, (⟨hi, hl, hk⟩ | ⟨pre, hSp, hne, c, hi, hl, hk⟩)⟩
      · exact ⟨none, _, by have := run_endLoop (P := P) hl (by rw [hrec]; simp); rw [hrec] at this; exact this, hdone _ _ (Nat.le_refl _) (hI.putObj _ hi (by omega) hl rfl) ((World.putObj_heap_other (by omega)).trans hk)⟩
      · exact ⟨some c, _, by have := run_endLoop (P := P) hl (by rw [hrec]; simp); rw [hrec] at this; exact this, hstop _ c pre _ (Nat.le_refl _) hSp hne ((hIx c).putObj _ hi (by omega) hl rfl) ((World.putObj_heap_other (by omega)).trans hk)⟩

theorem name_world {F : Fence} {n : Nat} {c : Code} {Q : Exit → Act → World → Prop} {a : Act} {W : World} (h : ∀ Wi, Wi = W → c.wpIn F n P Q a Wi) : c.wpIn F n P Q a W := h W rfl

theorem heap_alloc_if (w : World) (o : Obj) (k : Nat) : (w.alloc o).heap[k]? = if k = w.heap.size then some o else w.heap[k]? := by
  show (w.heap.push o)[k]? = _
  rw [Array.getElem?_push]

theorem heap_drew (w : World) : w.drew.heap = w.heap := rfl

/-- A round of a caller keeps what lay below. -/
theorem belowK {B : Nat} {w : World} (hB : B ≤ w.heap.size) : ∀ (V : World) (l : Nat) (o o' : Obj), w.heap.size ≤ l → V.heap[l]? = some o → o.isCells = false → o.isWalk = false → Below B V (V.putObj l o') :=
  fun V l o o' hl ho _ _ => (Below.refl B V).grown (grownBy_putObj' V l o') (by have := (Array.getElem?_eq_some_iff.1 ho).1; omega) (fun k e => by cases e; omega)

end Go.Proofs.Ytkddnknjjdenhaa.Vk
