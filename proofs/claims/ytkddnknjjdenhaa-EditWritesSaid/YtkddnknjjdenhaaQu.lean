/-
  A region that draws its order, with forks: where two operations whose value hangs on the world are ready, either may come first. No program in sight.
-/
import Derived.Test.YtkddnknjjdenhaaQs
set_option linter.unusedVariables false
set_option linter.unusedSimpArgs false
set_option maxRecDepth 100000
namespace Go.Proofs.Ytkddnknjjdenhaa.Vs
open Go Go.RowKit Go.Proofs.Ytkddnknjjdenhaa.Vk

variable {S : Nat → Prop}
section
variable {P : Program} {ops : Array Oper} {md : Region.Mode}
def goB (md : Region.Mode) (ops : Array Oper) (late : List Nat) : Path → Array Bool → Bool
  | [], d => true
  | (i, b) :: r, d => (if b = 0 then (Region.ready md ops d).contains i && Region.free md ops d i && late.all fun t => Region.waitsFor md ops t i
      else if b = 2 then (Region.ready md ops d).contains i && Region.free md ops d i
      else if b = 1 then decide (Region.ready md ops d = [i]) else decide (Region.ready md ops d = [i]) && late.contains i) && goB md ops late r (d.setIfInBounds i true)
def doneP (p : Path) (d : Array Bool) : Array Bool := p.foldl (fun d x => d.setIfInBounds x.1 true) d

theorem AnyG.go {Q : Exit → Act → World → Prop} (hsel : Region.noSelect ops = true) (late : List Nat) (f : Nat) (p : Path) :
    ∀ (d : Array Bool) (a : Act) (w : World), goB md ops late p d = true → wpPath S P ops (fun a' W => AnyG S P md ops (fun t => late.contains t) Q f (doneP p d) a' W) p a w → AnyG S P md ops (fun t => late.contains t) Q (p.length + f) d a w := by
  induction p with
  | nil =>
    intro d a w _ h
    rw [List.length_nil, Nat.zero_add]
    exact h w (Below.refl _ w)
  | cons x r ih =>
    obtain ⟨i, b⟩ := x
    intro d a w hB h
    rw [show ((i, b) :: r).length + f = (r.length + f) + 1 by simp; omega]
    simp only [goB, Bool.and_eq_true] at hB
    obtain ⟨hB, hB2⟩ := hB
    match b, hB, h with
    | 0, hB, h =>
      simp only [if_true, Bool.and_eq_true, List.contains_iff_mem, List.all_eq_true] at hB
      obtain ⟨o, v, ho, hs, hk⟩ := h
      exact AnyG.first ho (Region.noSelect_spec hsel) false (.inr fun t ht => hB.2 t (by simpa using ht)) (r.length + f) d a w (Region.free_spec ho hB.1.2) hB.1.1 (by simpa using hs) (ih _ _ _ hB2 hk)
    | 1, hB, h =>
      have hr : Region.ready md ops d = [i] := by simpa using hB
      intro W hW
      refine ⟨fun h0 => (by rw [hr] at h0; cases h0), fun j hj => ?_⟩
      rw [hr, List.mem_singleton] at hj
      subst hj
      exact gOp_mono (fun a' W' h2 => ⟨.inr h2.1, ih _ _ _ hB2 h2.2⟩) (h W hW)
    | 2, hB, h =>
      have hB' : i ∈ Region.ready md ops d ∧ Region.free md ops d i = true := by simpa using hB
      obtain ⟨o, v, ho, hs, hk⟩ := h
      exact AnyG.first ho (Region.noSelect_spec hsel) true (.inl rfl) (r.length + f) d a w (Region.free_spec ho hB'.2) hB'.1 (by simpa using hs) (ih _ _ _ hB2 hk)
    | n + 3, hB, h =>
      have hB' : Region.ready md ops d = [i] ∧ i ∈ late := by simpa using hB
      intro W hW
      refine ⟨fun h0 => (by rw [hB'.1] at h0; cases h0), fun j hj => ?_⟩
      rw [hB'.1, List.mem_singleton] at hj
      subst hj
      exact gOp_mono (fun a' W' h2 => ⟨.inl (by simpa using hB'.2), ih _ _ _ hB2 h2⟩) (h W hW)

theorem AnyG.two {T : Nat → Bool} {Q : Exit → Act → World → Prop} {i j f : Nat} {d : Array Bool} {a : Act} {w : World} (hr : Region.ready md ops d = [i, j])
    (hi : ∀ W, Below w.heap.size w W → gOp P ops i (fun a' W' => Fr S W W' ∧ AnyG S P md ops T Q f (d.setIfInBounds i true) a' W') a W)
    (hj : ∀ W, Below w.heap.size w W → gOp P ops j (fun a' W' => Fr S W W' ∧ AnyG S P md ops T Q f (d.setIfInBounds j true) a' W') a W) : AnyG S P md ops T Q (f + 1) d a w := fun W hW => by
  refine ⟨fun h0 => (by rw [hr] at h0; cases h0), fun k hk => ?_⟩
  rw [hr] at hk
  simp only [List.mem_cons, List.not_mem_nil, or_false] at hk
  rcases hk with rfl | rfl
  · exact gOp_mono (fun a' W' h => ⟨.inr h.1, h.2⟩) (hi W hW)
  · exact gOp_mono (fun a' W' h => ⟨.inr h.1, h.2⟩) (hj W hW)

theorem wpPath_mono {L L' : Act → World → Prop} (h : ∀ a w, L a w → L' a w) (p : Path) : ∀ {a : Act} {w : World}, wpPath S P ops L p a w → wpPath S P ops L' p a w := by
  induction p with
  | nil => exact fun hh W hW => h _ _ (hh W hW)
  | cons x r ih =>
    obtain ⟨i, b⟩ := x
    intro a w hh
    match b, hh with
    | 0, hh => obtain ⟨o, v, ho, hs, hk⟩ := hh; exact ⟨o, v, ho, hs, ih hk⟩
    | 1, hh => exact fun W hW => gOp_mono (fun a' W' h2 => ⟨h2.1, ih h2.2⟩) (hh W hW)
    | 2, hh => obtain ⟨o, v, ho, hs, hk⟩ := hh; exact ⟨o, v, ho, hs, ih hk⟩
    | n + 3, hh => exact fun W hW => gOp_mono (fun a' W' h2 => ih h2) (hh W hW)

/-- Paths with forks: how many operations, whether the order may be so, what is to be shown. -/
structure Tr (S : Nat → Prop) (P : Program) (md : Region.Mode) (ops : Array Oper) (late : List Nat) (Q : Exit → Act → World → Prop) where
  len : Nat
  ok : Array Bool → Bool
  wp : Act → World → Prop
  grow : ∀ a w W, wp a w → Below w.heap.size w W → wp a W
  sound : Region.noSelect ops = true → ∀ d a w, ok d = true → wp a w → AnyG S P md ops (fun t => late.contains t) Q len d a w
section
variable {late : List Nat} {Q : Exit → Act → World → Prop}
def Tr.path (p : Path) : Tr S P md ops late Q where
  len := p.length
  ok := pathB md ops late p
  wp := wpPath S P ops (fun a' W => Q .normal a' W) p
  grow := fun a w W h hb => wpPath_grow p h hb
  sound := fun hsel d a w hB h => AnyG.path hsel late p d a w hB h
def Tr.fork (pre : Path) (i j : Nat) (p q : Tr S P md ops late Q) : Tr S P md ops late Q where
  len := pre.length + (p.len + 1)
  ok := fun d => goB md ops late pre d && decide (Region.ready md ops (doneP pre d) = [i, j]) && decide (p.len = q.len) && p.ok ((doneP pre d).setIfInBounds i true) && q.ok ((doneP pre d).setIfInBounds j true)
  wp := wpPath S P ops (fun a w => (∀ W, Below w.heap.size w W → gOp P ops i (fun a' W' => Fr S W W' ∧ p.wp a' W') a W) ∧ (∀ W, Below w.heap.size w W → gOp P ops j (fun a' W' => Fr S W W' ∧ q.wp a' W') a W)) pre
  grow := fun a w W h hb => wpPath_grow pre h hb
  sound := fun hsel d a w hB h => by
    simp only [Bool.and_eq_true, decide_eq_true_eq] at hB
    obtain ⟨⟨⟨⟨h1, h2⟩, h3⟩, h4⟩, h5⟩ := hB
    refine AnyG.go hsel late (p.len + 1) pre d a w h1 (wpPath_mono (fun a' w' hh => ?_) pre h)
    refine AnyG.two h2 (fun W hW => gOp_mono (fun a'' W'' h6 => ⟨h6.1, p.sound hsel _ _ _ h4 h6.2⟩) (hh.1 W hW)) (fun W hW => gOp_mono (fun a'' W'' h6 => ⟨h6.1, ?_⟩) (hh.2 W hW))
    have h7 := q.sound hsel _ _ _ h5 h6.2
    rwa [← h3] at h7
theorem wpTr_path {a : Act} {w : World} {p : Path} (h : wpPath S P ops (fun a' W => Q .normal a' W) p a w) : (Tr.path p : Tr S P md ops late Q).wp a w := h
theorem wpTr_fork {a : Act} {w : World} {pre : Path} {i j : Nat} {p q : Tr S P md ops late Q} (h : wpPath S P ops (fun a w => (∀ W, Below w.heap.size w W → gOp P ops i (fun a' W' => Fr S W W' ∧ p.wp a' W') a W) ∧ (∀ W, Below w.heap.size w W → gOp P ops j (fun a' W' => Fr S W W' ∧ q.wp a' W') a W)) pre a w) : (Tr.fork pre i j p q).wp a w := h
end
theorem wp_region_tree {id : Nat} {Q : Exit → Act → World → Prop} {a : Act} {w : World} {l : List Oper} (late : List Nat) (t : Tr S P .any l.toArray late Q) (hm : P.follows .mixedOrders = true)
    (hB : (Region.noSelect l.toArray && decide (t.len = l.toArray.size) && t.ok (Array.replicate l.toArray.size false)) = true) (h : t.wp a w) : (Code.region id l.toArray true).wp P Q a w := by
  simp only [Bool.and_eq_true, decide_eq_true_eq] at hB
  obtain ⟨⟨hsel, hpn⟩, hp⟩ := hB
  have H := t.sound hsel (Array.replicate l.toArray.size false) a w.drew hp (t.grow _ _ _ h (Below.refl _ w).drew)
  have A := H.any
  rw [hpn] at A
  exact wp_region_any hm A
end
section
variable {P : Program} {l : List Oper} {a : Act} {k : Nat}
theorem fork_make {K : Act → World → Prop} {W W' : World} {u : Value} (hk : (l[k]?).isSome = true) (hw : Region.wanted (opOf l k) (yielded l.toArray a.tmps) = true) (hr : (execOp a.eval (opOf l k)).run P W = .ok (.value u) W')
    (h : K (a.put (opOf l k).dst u) W') : gOp P l.toArray k K a W := gOp_value (op_is hk) hw hr h
end
end Go.Proofs.Ytkddnknjjdenhaa.Vs
