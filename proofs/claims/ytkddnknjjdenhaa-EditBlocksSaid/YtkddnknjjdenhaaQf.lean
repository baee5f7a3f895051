/-
  A region that draws its order: a path through it with calls whose value hangs on the world (a slice, a function value); a fork: two operations of that kind, either may come first. No program in sight.
-/
import Derived.Test.YtkddnknjjdenhaaQp
set_option linter.unusedVariables false
set_option linter.unusedSimpArgs false
set_option maxRecDepth 100000
namespace Go.Proofs.Ytkddnknjjdenhaa.Vk
open Go Go.RowKit

section
variable {P : Program} {ops : Array Oper} {md : Region.Mode}
theorem gOp_call {i : Nat} {o : Oper} {a : Act} {W : World} {f : FuncId} {args : Array Value} {K : Act → World → Prop} (hi : ops[i]? = some o) (hw : Region.wanted o (yielded ops a.tmps) = true)
    (hr : (execOp a.eval o).run P W = .ok (.enter f args) W) (hk : Calls P f args W fun e W' => ∃ v, e = .returned v ∧ K (a.put o.dst v) W') : gOp P ops i K a W := by
  unfold gOp
  simp only [hi]
  rw [if_pos hw, hr]
  exact hk

theorem AnyG.two {T : Nat → Bool} {Q : Exit → Act → World → Prop} {i j f : Nat} {d : Array Bool} {a : Act} {w : World} (hr : Region.ready md ops d = [i, j])
    (hi : ∀ W, Below w.heap.size w W → gOp P ops i (fun a' W' => Below W.heap.size W W' ∧ AnyG P md ops T Q f (d.setIfInBounds i true) a' W') a W)
    (hj : ∀ W, Below w.heap.size w W → gOp P ops j (fun a' W' => Below W.heap.size W W' ∧ AnyG P md ops T Q f (d.setIfInBounds j true) a' W') a W) : AnyG P md ops T Q (f + 1) d a w := fun W hW => by
  refine ⟨fun h0 => (by rw [hr] at h0; cases h0), fun k hk => ?_⟩
  rw [hr] at hk
  simp only [List.mem_cons, List.not_mem_nil, or_false] at hk
  rcases hk with rfl | rfl
  · exact gOp_mono (fun a' W' h => ⟨.inr h.1, h.2⟩) (hi W hW)
  · exact gOp_mono (fun a' W' h => ⟨.inr h.1, h.2⟩) (hj W hW)

def preB (md : Region.Mode) (ops : Array Oper) (late : List Nat) : List Nat → Array Bool → Bool
  | [], _ => true
  | i :: r, d => ((Region.ready md ops d).contains i && Region.free md ops d i && late.all fun t => Region.waitsFor md ops t i) && preB md ops late r (d.setIfInBounds i true)
def doneOf (s : List Nat) (d : Array Bool) : Array Bool := s.foldl (fun d i => d.setIfInBounds i true) d
theorem AnyG.steps {Q : Exit → Act → World → Prop} (hsel : Region.noSelect ops = true) (late : List Nat) (f : Nat) (s : List Nat) :
    ∀ (d : Array Bool) (a : Act) (w : World), preB md ops late s d = true → wpPath P ops (fun a' W => AnyG P md ops (fun t => late.contains t) Q f (doneOf s d) a' W) (s.map fun i => (i, 0)) a w →
      AnyG P md ops (fun t => late.contains t) Q (s.length + f) d a w := by
  induction s with
  | nil =>
    intro d a w _ h
    rw [List.length_nil, Nat.zero_add]
    exact h w (Below.refl _ w)
  | cons i r ih =>
    intro d a w hB h
    simp only [preB, Bool.and_eq_true] at hB
    obtain ⟨hB, hB2⟩ := hB
    simp only [List.contains_iff_mem, List.all_eq_true] at hB
    obtain ⟨o, v, ho, hs, hk⟩ := h
    rw [show (i :: r).length + f = (r.length + f) + 1 by simp; omega]
    exact AnyG.first ho (Region.noSelect_spec hsel) false (.inr fun t ht => hB.2 t (by simpa using ht)) (r.length + f) d a w (Region.free_spec ho hB.1.2) hB.1.1 (by simpa using hs) (ih _ _ _ hB2 hk)

def forkB (md : Region.Mode) (ops : Array Oper) (s : List Nat) (i j : Nat) (p q : Path) : Bool :=
  Region.noSelect ops && preB md ops (lateOf p) s (Array.replicate ops.size false) && decide (Region.ready md ops (doneOf s (Array.replicate ops.size false)) = [i, j]) && decide (lateOf q = lateOf p) &&
    decide (s.length + (p.length + 1) = ops.size) && decide (s.length + (q.length + 1) = ops.size) &&
    pathB md ops (lateOf p) p ((doneOf s (Array.replicate ops.size false)).setIfInBounds i true) && pathB md ops (lateOf p) q ((doneOf s (Array.replicate ops.size false)).setIfInBounds j true)

theorem wp_region_fork {id : Nat} {Q : Exit → Act → World → Prop} {a : Act} {w : World} {l : List Oper} (s : List Nat) (i j : Nat) (p q : Path) (hm : P.follows .mixedOrders = true)
    (hB : forkB .any l.toArray s i j p q = true) (z : Nat) (hz : a.tmps.size = z) (hs : (((s.map fun i => (l[i]?).isSome).all fun b => b) && dstB z (s.map (opOf l))) = true)
    (h : ∃ A : Act, (∀ C, Grows w C → wpQuiet P l.toArray (fun W => ∃ x : In C, W = x.W) (fun a' => a' = A) (s.map (opOf l)) a) ∧
      (∀ W, Below w.heap.size w W → gOp P l.toArray i (fun a' W' => Below W.heap.size W W' ∧ wpPath P l.toArray (fun a' W => Q .normal a' W) p a' W') A W) ∧
      (∀ W, Below w.heap.size w W → gOp P l.toArray j (fun a' W' => Below W.heap.size W W' ∧ wpPath P l.toArray (fun a' W => Q .normal a' W) q a' W') A W)) : (Code.region id l.toArray true).wp P Q a w := by
  rw [Bool.and_eq_true] at hs
  obtain ⟨A, hA, h1, h2⟩ := h
  simp only [forkB, Bool.and_eq_true, decide_eq_true_eq] at hB
  obtain ⟨⟨⟨⟨⟨⟨⟨hsel, hpre⟩, hr⟩, hlq⟩, hpl⟩, hql⟩, hp⟩, hq⟩ := hB
  have H : AnyG P .any l.toArray (fun t => (lateOf p).contains t) Q (s.length + (p.length + 1)) (Array.replicate l.toArray.size false) a w.drew := by
    refine AnyG.steps hsel (lateOf p) (p.length + 1) s _ a w.drew hpre ?_
    refine wpPath_grow _ (w := w) ?_ (Below.refl _ w).drew
    have h3 := wpPath_seg (L := fun a' W => AnyG P .any l.toArray (fun t => (lateOf p).contains t) Q (p.length + 1) (doneOf s (Array.replicate l.toArray.size false)) a' W) (r := []) s _ a (pick_map s hs.1) (by rw [hz]; exact hs.2) hA ?_
    · rwa [List.append_nil] at h3
    · intro W hW
      refine AnyG.two hr ?_ ?_
      · intro V hV
        exact gOp_mono (fun a' W' hh => ⟨hh.1, AnyG.path hsel (lateOf p) p _ a' W' hp hh.2⟩) (h1 V (below_on hW hV))
      · intro V hV
        have hlen : q.length = p.length := by omega
        exact gOp_mono (fun a' W' hh => ⟨hh.1, by rw [← hlen]; exact AnyG.path hsel (lateOf p) q _ a' W' hq hh.2⟩) (h2 V (below_on hW hV))
  have A2 := H.any
  rw [hpl] at A2
  exact wp_region_any hm A2
end

section
variable {P : Program} {l : List Oper} {L : Act → World → Prop} {a : Act} {w : World} {r : Path} {k : Nat}
/-- A call whose value hangs on the world. -/
theorem wpPath_call {f : FuncId} {args : Array Value} (hk : (l[k]?).isSome = true) (hw : Region.wanted (opOf l k) (yielded l.toArray a.tmps) = true) (hr : ∀ W, (execOp a.eval (opOf l k)).run P W = .ok (.enter f args) W)
    (h : ∀ W, Below w.heap.size w W → Calls P f args W fun e W' => ∃ v, e = .returned v ∧ Below W.heap.size W W' ∧ wpPath P l.toArray L r (a.put (opOf l k).dst v) W') : wpPath P l.toArray L ((k, 1) :: r) a w :=
  fun W hW => gOp_call (op_is hk) hw (hr W) (h W hW)
theorem fork_call {f : FuncId} {args : Array Value} {K : Act → World → Prop} {W : World} (hk : (l[k]?).isSome = true) (hw : Region.wanted (opOf l k) (yielded l.toArray a.tmps) = true) (hr : (execOp a.eval (opOf l k)).run P W = .ok (.enter f args) W)
    (h : Calls P f args W fun e W' => ∃ v, e = .returned v ∧ K (a.put (opOf l k).dst v) W') : gOp P l.toArray k K a W := gOp_call (op_is hk) hw hr h
theorem fork_make {K : Act → World → Prop} {W W' : World} {u : Value} (hk : (l[k]?).isSome = true) (hw : Region.wanted (opOf l k) (yielded l.toArray a.tmps) = true) (hr : (execOp a.eval (opOf l k)).run P W = .ok (.value u) W')
    (h : K (a.put (opOf l k).dst u) W') : gOp P l.toArray k K a W := gOp_value (op_is hk) hw hr h
end
end Go.Proofs.Ytkddnknjjdenhaa.Vk
