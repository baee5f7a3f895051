/-
  A region that draws its order: settled operations (they read, or call what makes memory), one operation among them that makes a block, then a chain (a store). The settled ones are walked once; the block's address is whatever it is. No program in sight.
-/
import Derived.Test.YtkddnknjjdenhaaQt
set_option linter.unusedVariables false
set_option linter.unusedSimpArgs false
set_option maxRecDepth 100000
namespace Go.Proofs.Ytkddnknjjdenhaa.Vk
open Go Go.RowKit

/-- A class of worlds, as a type. -/
structure In (C : World → Prop) where
  W : World
  isIn : C W
abbrev cls (C : World → Prop) : World → Prop := fun W => ∃ x : In C, W = x.W
/-- A class of worlds that grow out of w, closed under growth. -/
structure Grows (w : World) (C : World → Prop) : Prop where
  below : ∀ W, C W → Below w.heap.size w W
  on : ∀ W W', C W → Below W.heap.size W W' → C W'
  one : Nonempty (In C)
theorem Grows.cell {w : World} {C : World → Prop} {a : Addr} {v : Value} (hC : Grows w C) (h : w.cell? a = some v) (x : In C) : x.W.cell? a = some v := cell_later (hC.below _ x.isIn) h
theorem Calls.in_of {P : Program} {f : FuncId} {args : Array Value} {w : World} {C : World → Prop} {x : In C} {v : Value} (hC : Grows w C)
    (h : Calls P f args x.W fun e W => e = .returned v ∧ Below x.W.heap.size x.W W) : Calls P f args x.W fun e W => e = .returned v ∧ cls C W :=
  h.mono fun _ W ⟨he, hb⟩ => ⟨he, ⟨W, hC.on _ _ x.isIn hb⟩, rfl⟩
theorem Calls.in_of_same {P : Program} {f : FuncId} {args : Array Value} {w : World} {C : World → Prop} {x : In C} {v : Value} (hC : Grows w C)
    (h : Calls P f args x.W fun e W => e = .returned v ∧ x.W = W) : Calls P f args x.W fun e W => e = .returned v ∧ cls C W :=
  h.mono fun _ W ⟨he, hb⟩ => ⟨he, x, hb.symm⟩
theorem below_on {w W W' : World} (h : Below w.heap.size w W) (h' : Below W.heap.size W W') : Below w.heap.size w W' := h.trans (h'.mono h.size)
theorem grows_self (w : World) : Grows w (fun W => Below w.heap.size w W) := ⟨fun _ h => h, fun _ _ h h' => below_on h h', ⟨⟨w, Below.refl _ w⟩⟩⟩
theorem Grows.of {w W : World} {C : World → Prop} (h : Grows W C) (hb : Below w.heap.size w W) : Grows w C := ⟨fun V hV => below_on hb (h.below V hV), h.on, h.one⟩

section
variable {P : Program} {ops : Array Oper} {md : Region.Mode}

/-- One operation, whose outcome is a value, nothing, or a call that returns. -/
def gUpon (P : Program) (o : Oper) (a : Act) (K : Act → World → Prop) : Result Next → Prop
  | .ok (.value u) W => K (a.put o.dst u) W
  | .ok .skip W => K (a.put o.dst undef) W
  | .ok (.enter f args) W => Calls P f args W fun e W' => ∃ v, e = .returned v ∧ K (a.put o.dst v) W'
  | _ => False
def gOp (P : Program) (ops : Array Oper) (i : Nat) (K : Act → World → Prop) (a : Act) (W : World) : Prop :=
  match ops[i]? with
  | none => K a W
  | some o => if Region.wanted o (yielded ops a.tmps) then gUpon P o a K ((execOp a.eval o).run P W) else K (a.put o.dst undef) W

theorem gUpon_mono {o : Oper} {a : Act} {K K' : Act → World → Prop} {r : Result Next} (h : ∀ a W, K a W → K' a W) (hh : gUpon P o a K r) : gUpon P o a K' r := by
  cases r with
  | halt x W => exact hh
  | ok n W =>
    cases n <;> simp only [gUpon] at hh ⊢
    case enter f args => exact hh.mono fun e W' ⟨v, he, hk⟩ => ⟨v, he, h _ _ hk⟩
    all_goals exact h _ _ hh
theorem gOp_mono {i : Nat} {a : Act} {W : World} {K K' : Act → World → Prop} (h : ∀ a W, K a W → K' a W) (hh : gOp P ops i K a W) : gOp P ops i K' a W := by
  unfold gOp at *
  cases ho : ops[i]? with
  | none => rw [ho] at hh; exact h _ _ hh
  | some o =>
    simp only [ho] at hh ⊢
    split
    · rename_i hw; rw [if_pos hw] at hh; exact gUpon_mono h hh
    · rename_i hw; rw [if_neg hw] at hh; exact h _ _ hh
theorem gOp.wp {i : Nat} {a : Act} {W : World} {K : Act → World → Prop} {Q : Exit → Act → World → Prop} (hh : gOp P ops i K a W) : wpOp P ops Q i K a W := by
  unfold gOp at hh
  unfold wpOp
  cases ho : ops[i]? with
  | none => rw [ho] at hh; exact hh
  | some o =>
    simp only [ho] at hh ⊢
    split
    · rename_i hw
      rw [if_pos hw] at hh
      refine .inl ?_
      unfold Oper.wp
      generalize (execOp a.eval o).run P W = r at *
      cases r with
      | halt x W' => exact hh.elim
      | ok n W' =>
        cases n <;> simp only [gUpon] at hh <;> simp only [Oper.upon]
        case enter f args => exact hh.mono fun e W'' ⟨v, he, hk⟩ => by subst he; exact hk
        all_goals exact hh
    · rename_i hw; rw [if_neg hw] at hh; exact hh
/-- An operation apart from another one: the other's value may lie there or not. -/
theorem gOp_put {j : Nat} {oi oj : Oper} {v : Value} (hj : ops[j]? = some oj) (hap : oi.apart ops oj = true) (hsj : ∀ cs b, oj.op ≠ .select cs b) {Y : Act → Prop} (hY : ∀ a u, Y a → Y (a.put oj.dst u))
    {K : Act → World → Prop} {a : Act} {W : World} (hy : Y a) (h : gOp P ops j K (a.put oi.dst v) W) : gOp P ops j (fun a' W' => Y a' ∧ K (a'.put oi.dst v) W') a W := by
  obtain ⟨h1, h2, _⟩ := Oper.apart_spec hap
  unfold gOp at *
  simp only [hj] at h ⊢
  rw [wanted_put oj a oi.dst v h1] at h
  split
  · rename_i hw
    rw [if_pos hw, execOp_put oj hsj a oi.dst v h1] at h
    generalize (execOp a.eval oj).run P W = r at *
    cases r with
    | halt x W' => exact h
    | ok n W' =>
      cases n <;> simp only [gUpon] at h ⊢
      case value u => exact ⟨hY _ _ hy, by rw [← Act.put_comm a v u h2]; exact h⟩
      case skip => exact ⟨hY _ _ hy, by rw [← Act.put_comm a v undef h2]; exact h⟩
      case enter f args => exact h.mono fun e W'' ⟨u, he, hk⟩ => ⟨u, he, hY _ _ hy, by rw [← Act.put_comm a v u h2]; exact hk⟩
  · rename_i hw
    rw [if_neg hw] at h
    exact ⟨hY _ _ hy, by rw [← Act.put_comm a v undef h2]; exact h⟩

/-- Settled: one value in every world that grows out of w, and but growth. -/
def sUpon (P : Program) (W : World) (v : Value) : Result Next → Prop
  | .ok (.value u) W' => u = v ∧ Below W.heap.size W W'
  | .ok .skip W' => v = undef ∧ Below W.heap.size W W'
  | .ok (.enter f args) W' => Calls P f args W' fun e W'' => e = .returned v ∧ Below W.heap.size W W''
  | _ => False
def Steady (P : Program) (ops : Array Oper) (w : World) (o : Oper) (v : Value) (a : Act) : Prop :=
  (Region.wanted o (yielded ops a.tmps) = true ∧ ∀ W, Below w.heap.size w W → sUpon P W v ((execOp a.eval o).run P W)) ∨ (Region.wanted o (yielded ops a.tmps) = false ∧ v = undef)
theorem Steady.grow {w W : World} {o : Oper} {v : Value} {a : Act} (h : Steady P ops w o v a) (hb : Below w.heap.size w W) : Steady P ops W o v a :=
  h.imp (fun ⟨h1, h2⟩ => ⟨h1, fun V hV => h2 V (below_on hb hV)⟩) id
theorem Steady.gOp {w W : World} {i : Nat} {o : Oper} {v : Value} {a : Act} (hi : ops[i]? = some o) (h : Steady P ops w o v a) (hb : Below w.heap.size w W) {K : Act → World → Prop}
    (hk : ∀ W', Below W.heap.size W W' → K (a.put o.dst v) W') : Vk.gOp P ops i K a W := by
  unfold Vk.gOp
  simp only [hi]
  rcases h with ⟨hw, h⟩ | ⟨hw, rfl⟩
  · rw [if_pos hw]
    have h2 := h W hb
    generalize (execOp a.eval o).run P W = r at *
    cases r with
    | halt x W' => exact h2
    | ok n W' =>
      cases n <;> simp only [sUpon] at h2 <;> simp only [gUpon]
      case value u => obtain ⟨rfl, h3⟩ := h2; exact hk _ h3
      case skip => obtain ⟨rfl, h3⟩ := h2; exact hk _ h3
      case enter f args => exact h2.mono fun e W'' ⟨he, h3⟩ => ⟨v, he, hk _ h3⟩
  · rw [if_neg (by rw [hw]; exact Bool.false_ne_true)]
    exact hk _ (Below.refl _ W)

/-- How an operation of a path behaves: settled (0), it makes a block (1), it looks at no world (2), it writes where it likes, behind all settled ones (3). -/
abbrev Path := List (Nat × Nat)
/-- Whatever order is picked, in whatever world that grows out of the one at hand; T: the operations of the fourth kind. -/
def AnyG (P : Program) (md : Region.Mode) (ops : Array Oper) (T : Nat → Bool) (Q : Exit → Act → World → Prop) : Nat → Array Bool → Act → World → Prop
  | 0, d, a, w => ∀ W, Below w.heap.size w W → Region.ready md ops d = [] ∧ Q .normal a W
  | f + 1, d, a, w => ∀ W, Below w.heap.size w W → (Region.ready md ops d = [] → Q .normal a W) ∧
      ∀ i ∈ Region.ready md ops d, gOp P ops i (fun a' W' => (T i = true ∨ Below W.heap.size W W') ∧ AnyG P md ops T Q f (d.setIfInBounds i true) a' W') a W
theorem AnyG.grow {T : Nat → Bool} {Q : Exit → Act → World → Prop} {f : Nat} {d : Array Bool} {a : Act} {w W : World} (h : AnyG P md ops T Q f d a w) (hb : Below w.heap.size w W) : AnyG P md ops T Q f d a W := by
  cases f <;> exact fun V hV => h V (below_on hb hV)
theorem AnyG.any {T : Nat → Bool} {Q : Exit → Act → World → Prop} : ∀ (f : Nat) (d : Array Bool) (a : Act) (w : World), AnyG P md ops T Q f d a w → wpAny P md ops Q f d a w
  | 0, d, a, w, h => h w (Below.refl _ w)
  | f + 1, d, a, w, h =>
    have h' := h w (Below.refl _ w)
    ⟨h'.1, fun i hi => wpOp_mono (fun a' W' h2 => AnyG.any f _ a' W' h2.2) (h'.2 i hi).wp⟩
theorem AnyG.first {i : Nat} {oi : Oper} {v : Value} {T : Nat → Bool} {Q : Exit → Act → World → Prop} (hi : ops[i]? = some oi) (hsel : ∀ (j : Nat) (o : Oper) cs b, ops[j]? = some o → o.op ≠ .select cs b) (pure : Bool)
    (hT : pure = true ∨ ∀ t, T t = true → Region.waitsFor md ops t i = true) (f : Nat) :
    ∀ (d : Array Bool) (a : Act) (w : World),
      (∀ j oj, ops[j]? = some oj → j ≠ i → d.getD j true = false → (∀ e ∈ oj.after, Region.binds md e = true → e.on ≠ i) → oi.apart ops oj = true) →
      i ∈ Region.ready md ops d → (if pure then ∀ V, Steady P ops V oi v a else Steady P ops w oi v a) → AnyG P md ops T Q f (d.setIfInBounds i true) (a.put oi.dst v) w → AnyG P md ops T Q (f + 1) d a w := by
  induction f with
  | zero =>
    intro d a w _ hr hy H W hW
    refine ⟨fun h => (by rw [h] at hr; cases hr), fun j hj => ?_⟩
    by_cases hji : j = i
    · subst hji
      have hy' : Steady P ops W oi v a := by
        cases pure
        · exact Steady.grow (by simpa using hy) hW
        · exact (by simpa using hy : ∀ V, Steady P ops V oi v a) W
      exact hy'.gOp hi (Below.refl _ W) fun W' hb => ⟨.inr hb, H.grow (below_on hW hb)⟩
    · have h1 := (H W hW).1
      have := ready_mono hj hji
      rw [h1] at this
      cases this
  | succ f ih =>
    intro d a w hfree hr hy H W hW
    have hun := (mem_ready.1 hr).1
    refine ⟨fun h => (by rw [h] at hr; cases hr), fun j hj => ?_⟩
    by_cases hji : j = i
    · subst hji
      have hy' : Steady P ops W oi v a := by
        cases pure
        · exact Steady.grow (by simpa using hy) hW
        · exact (by simpa using hy : ∀ V, Steady P ops V oi v a) W
      exact hy'.gOp hi (Below.refl _ W) fun W' hb => ⟨.inr hb, H.grow (below_on hW hb)⟩
    obtain ⟨hjun, oj, hoj, hall⟩ := mem_ready.1 hj
    have hnot : ∀ e ∈ oj.after, Region.binds md e = true → e.on ≠ i := fun e he hb hei => by
      have := hall e he hb
      rw [hei, getD_both hun] at this
      cases this
    have hap := hfree j oj hoj hji hjun hnot
    have hTj : pure = true ∨ T j ≠ true := hT.imp id fun h hj' => by
      obtain ⟨o', ho', e, he, hb, hon⟩ := Region.waitsFor_spec (h j hj')
      obtain rfl : o' = oj := Option.some.inj (ho'.symm.trans hoj)
      exact hnot e he hb hon
    have hkeep : ∀ (a : Act) u, (if pure then ∀ V, Steady P ops V oi v a else Steady P ops w oi v a) → (if pure then ∀ V, Steady P ops V oi v (a.put oj.dst u) else Steady P ops w oi v (a.put oj.dst u)) := fun a u h => by
      obtain ⟨_, _, h3⟩ := Oper.apart_spec hap
      unfold Steady at *
      rw [execOp_put oi (fun cs b => hsel i oi cs b hi) a oj.dst u h3, wanted_put oi a oj.dst u h3]
      exact h
    have h2 := gOp_put hoj hap (fun cs b => hsel j oj cs b hoj) (Y := fun a => if pure then ∀ V, Steady P ops V oi v a else Steady P ops w oi v a) hkeep hy ((H W hW).2 j (ready_mono hj hji))
    refine gOp_mono (fun a' W' h3 => ⟨h3.2.1, ih _ a' W' (fun k ok hk hki hku hno => hfree k ok hk hki ?_ hno) (ready_mono hr (Ne.symm hji)) ?_ ?_⟩) h2
    · by_cases hjk : j = k
      · subst hjk; exact hjun
      · rwa [getD_set_ne true hjk] at hku
    · cases pure
      · have hg : Below W.heap.size W W' := h3.2.1.resolve_left (hTj.resolve_left Bool.false_ne_true)
        exact Steady.grow (by simpa using h3.1) (below_on hW hg)
      · exact h3.1
    · rw [Array.setIfInBounds_comm _ _ hji]
      exact h3.2.2

def wpPath (P : Program) (ops : Array Oper) (L : Act → World → Prop) : Path → Act → World → Prop
  | [], a, w => ∀ W, Below w.heap.size w W → L a W
  | (i, 0) :: r, a, w => ∃ o v, ops[i]? = some o ∧ Steady P ops w o v a ∧ wpPath P ops L r (a.put o.dst v) w
  | (i, 1) :: r, a, w => ∀ W, Below w.heap.size w W → gOp P ops i (fun a' W' => Below W.heap.size W W' ∧ wpPath P ops L r a' W') a W
  | (i, 2) :: r, a, w => ∃ o v, ops[i]? = some o ∧ (∀ V, Steady P ops V o v a) ∧ wpPath P ops L r (a.put o.dst v) w
  | (i, _ + 3) :: r, a, w => ∀ W, Below w.heap.size w W → gOp P ops i (wpPath P ops L r) a W
def pathB (md : Region.Mode) (ops : Array Oper) (late : List Nat) : Path → Array Bool → Bool
  | [], d => (Region.ready md ops d).isEmpty
  | (i, b) :: r, d => (if b = 0 then (Region.ready md ops d).contains i && Region.free md ops d i && late.all fun t => Region.waitsFor md ops t i
      else if b = 2 then (Region.ready md ops d).contains i && Region.free md ops d i
      else if b = 1 then decide (Region.ready md ops d = [i]) else decide (Region.ready md ops d = [i]) && late.contains i) && pathB md ops late r (d.setIfInBounds i true)
def lateOf (p : Path) : List Nat := (p.filter fun x => decide (3 ≤ x.2)).map (·.1)
def pathAllB (md : Region.Mode) (ops : Array Oper) (p : Path) : Bool := Region.noSelect ops && decide (p.length = ops.size) && pathB md ops (lateOf p) p (Array.replicate ops.size false)

theorem AnyG.path {Q : Exit → Act → World → Prop} (hsel : Region.noSelect ops = true) (late : List Nat) (p : Path) :
    ∀ (d : Array Bool) (a : Act) (w : World), pathB md ops late p d = true → wpPath P ops (fun a' W => Q .normal a' W) p a w → AnyG P md ops (fun t => late.contains t) Q p.length d a w := by
  induction p with
  | nil => intro d a w hB h W hW; exact ⟨by simpa [pathB] using hB, h W hW⟩
  | cons x r ih =>
    obtain ⟨i, b⟩ := x
    intro d a w hB h
    simp only [pathB, Bool.and_eq_true] at hB
    obtain ⟨hB, hB2⟩ := hB
    match b, hB, h with
    | 0, hB, h =>
      simp only [if_true, Bool.and_eq_true, List.contains_iff_mem, List.all_eq_true] at hB
      obtain ⟨o, v, ho, hs, hk⟩ := h
      exact AnyG.first ho (Region.noSelect_spec hsel) false (.inr fun t ht => hB.2 t (by simpa using ht)) r.length d a w (Region.free_spec ho hB.1.2) hB.1.1 (by simpa using hs) (ih _ _ _ hB2 hk)
    | 1, hB, h =>
      have hr : Region.ready md ops d = [i] := by simpa using hB
      intro W hW
      refine ⟨fun h0 => (by rw [hr] at h0; cases h0), fun j hj => ?_⟩
      rw [hr, List.mem_singleton] at hj
      subst hj
      exact gOp_mono (fun a' W' h2 => ⟨.inr h2.1, ih _ _ _ hB2 h2.2⟩) (h W hW)
    | 2, hB, h =>
      have hB' : i ∈ Region.ready md ops d ∧ Region.free md ops d i = true := by simpa using hB
      obtain ⟨o, v, ho, hs, hk⟩ := h
      exact AnyG.first ho (Region.noSelect_spec hsel) true (.inl rfl) r.length d a w (Region.free_spec ho hB'.2) hB'.1 (by simpa using hs) (ih _ _ _ hB2 hk)
    | n + 3, hB, h =>
      have hB' : Region.ready md ops d = [i] ∧ i ∈ late := by simpa using hB
      intro W hW
      refine ⟨fun h0 => (by rw [hB'.1] at h0; cases h0), fun j hj => ?_⟩
      rw [hB'.1, List.mem_singleton] at hj
      subst hj
      exact gOp_mono (fun a' W' h2 => ⟨.inl (by simpa using hB'.2), ih _ _ _ hB2 h2⟩) (h W hW)

theorem wpPath_grow {L : Act → World → Prop} (p : Path) : ∀ {a : Act} {w W : World}, wpPath P ops L p a w → Below w.heap.size w W → wpPath P ops L p a W := by
  induction p with
  | nil => exact fun h hb V hV => h V (below_on hb hV)
  | cons x r ih =>
    obtain ⟨i, b⟩ := x
    intro a w W h hb
    match b, h with
    | 0, h => obtain ⟨o, v, ho, hs, hk⟩ := h; exact ⟨o, v, ho, hs.grow hb, ih hk hb⟩
    | 1, h => exact fun V hV => h V (below_on hb hV)
    | 2, h => obtain ⟨o, v, ho, hs, hk⟩ := h; exact ⟨o, v, ho, hs, ih hk hb⟩
    | n + 3, h => exact fun V hV => h V (below_on hb hV)

theorem wp_region_path {id : Nat} {Q : Exit → Act → World → Prop} {a : Act} {w : World} {l : List Oper} (p : Path) (hm : P.follows .mixedOrders = true) (hB : pathAllB .any l.toArray p = true)
    (h : wpPath P l.toArray (fun a' W => Q .normal a' W) p a w) : (Code.region id l.toArray true).wp P Q a w := by
  simp only [pathAllB, Bool.and_eq_true, decide_eq_true_eq] at hB
  obtain ⟨⟨hsel, hpn⟩, hp⟩ := hB
  have H := AnyG.path (md := .any) (Q := Q) hsel (lateOf p) p (Array.replicate l.toArray.size false) a w.drew hp (wpPath_grow p h (Below.refl _ w).drew)
  have A := H.any
  rw [hpn] at A
  exact wp_region_any hm A

/-- Each operation writes a slot of its own. -/
def dstB (n : Nat) : List Oper → Bool
  | [] => true
  | o :: l => (match o.dst with | some d => decide (d < n) && l.all (fun o' => o'.dst != some d) | none => false) && dstB n l
theorem put_size (a : Act) (d : Option Tmp) (v : Value) : (a.put d v).tmps.size = a.tmps.size := by cases d <;> simp [Act.put]
theorem quiet_keeps {C : World → Prop} {A : Act} {d : Nat} (l : List Oper) : ∀ b : Act, (l.all fun o => o.dst != some d) = true → wpQuiet P ops C (fun a' => a' = A) l b → A.tmps[d]? = b.tmps[d]? := by
  induction l with
  | nil => intro b _ h; rw [show b = A from h]
  | cons o l ih =>
    intro b hd h
    simp only [List.all_cons, Bool.and_eq_true] at hd
    have hne : o.dst ≠ some d := by simpa using hd.1
    have hput : ∀ v, (b.put o.dst v).tmps[d]? = b.tmps[d]? := fun v => by
      cases ho : o.dst with
      | none => rfl
      | some e => exact Array.getElem?_setIfInBounds_ne (fun he => hne (by rw [ho, he]))
    unfold wpQuiet at h
    split at h
    · obtain ⟨v, _, h2⟩ := h
      rw [ih _ hd.2 h2, hput]
    · rw [ih _ hd.2 h, hput]
theorem Grows.at {w W : World} (hb : Below w.heap.size w W) : Grows w (fun V => Below W.heap.size W V) := (grows_self W).of hb
/-- Settled operations in a row, walked at whatever class. -/
theorem wpPath_seg {L : Act → World → Prop} {w : World} {r : Path} {A : Act} (is : List Nat) : ∀ (l : List Oper) (a : Act), (is.map fun i => ops[i]?) = l.map some → dstB a.tmps.size l = true →
    (∀ C, Grows w C → wpQuiet P ops (cls C) (fun a' => a' = A) l a) → wpPath P ops L r A w → wpPath P ops L (is.map (fun i => (i, 0)) ++ r) a w := by
  induction is with
  | nil =>
    intro l a hl _ h hk
    cases l with
    | nil => rw [show a = A from h _ (grows_self w)]; exact hk
    | cons o l => cases hl
  | cons i is ih =>
    intro l a hl hd h hk
    cases l with
    | nil => cases hl
    | cons o l =>
      simp only [List.map_cons, List.cons.injEq] at hl
      simp only [dstB, Bool.and_eq_true] at hd
      obtain ⟨hd1, hd2⟩ := hd
      cases ho : o.dst with
      | none => rw [ho] at hd1; cases hd1
      | some d =>
        rw [ho] at hd1
        simp only [Bool.and_eq_true, decide_eq_true_eq] at hd1
        obtain ⟨hdn, hall⟩ := hd1
        have hv : ∀ v', A.tmps[d]? = (a.put (some d) v').tmps[d]? → v' = A.tmps.getD d undef := fun v' hh => by
          have e : (a.put (some d) v').tmps[d]? = some v' := by simp [Act.put, hdn]
          rw [e] at hh
          simp [hh]
        by_cases hw : Region.wanted o (yielded ops a.tmps) = true
        · have key : ∀ C, Grows w C → (∀ W, cls C W → o.quietAt P a (cls C) W (A.tmps.getD d undef)) ∧ wpQuiet P ops (cls C) (fun a' => a' = A) l (a.put o.dst (A.tmps.getD d undef)) := fun C hC => by
            have h1 := h C hC
            unfold wpQuiet at h1
            rw [if_pos hw] at h1
            obtain ⟨v', hq, hn⟩ := h1
            have := hv v' (by rw [← ho]; exact quiet_keeps l _ hall hn)
            subst this
            exact ⟨hq, hn⟩
          refine ⟨o, A.tmps.getD d undef, hl.1, .inl ⟨hw, fun W hW => ?_⟩, ih l _ hl.2 (by rw [put_size]; exact hd2) (fun C hC => (key C hC).2) hk⟩
          have h2 := (key _ (Grows.at hW)).1 W ⟨⟨W, Below.refl _ W⟩, rfl⟩
          unfold Oper.quietAt at h2
          generalize (execOp a.eval o).run P W = res at *
          cases res with
          | halt x W' => exact h2
          | ok n W' =>
            cases n <;> simp only [Oper.quietUpon] at h2 <;> simp only [sUpon]
            case value u => obtain ⟨rfl, h3⟩ := h2; exact ⟨h3, Below.refl _ _⟩
            case skip => obtain ⟨rfl, h3⟩ := h2; exact ⟨h3, Below.refl _ _⟩
            case enter f args =>
              obtain ⟨rfl, hc⟩ := h2
              exact hc.mono fun e W'' ⟨he, x, hx⟩ => ⟨he, by rw [hx]; exact x.isIn⟩
        · have hw' : Region.wanted o (yielded ops a.tmps) = false := by simpa using hw
          have key : ∀ C, Grows w C → wpQuiet P ops (cls C) (fun a' => a' = A) l (a.put o.dst undef) := fun C hC => by
            have h1 := h C hC
            unfold wpQuiet at h1
            rwa [if_neg hw] at h1
          exact ⟨o, undef, hl.1, .inr ⟨hw', rfl⟩, ih l _ hl.2 (by rw [put_size]; exact hd2) key hk⟩

/-- The operation that makes a block. -/
theorem gOp_value {i : Nat} {o : Oper} {a : Act} {W W' : World} {u : Value} {K : Act → World → Prop} (hi : ops[i]? = some o) (hw : Region.wanted o (yielded ops a.tmps) = true)
    (hr : (execOp a.eval o).run P W = .ok (.value u) W') (hk : K (a.put o.dst u) W') : gOp P ops i K a W := by
  unfold gOp
  simp only [hi]
  rw [if_pos hw, hr]
  exact hk
def opOf (l : List Oper) (i : Nat) : Oper := (l[i]?).getD ⟨none, .move (.const undef), 0, "", #[], none⟩
theorem opOf_zero (o : Oper) (l : List Oper) : opOf (o :: l) 0 = o := rfl
theorem opOf_succ (o : Oper) (l : List Oper) (i : Nat) : opOf (o :: l) (i + 1) = opOf l i := rfl
/-- An operation that looks at no world. -/
theorem wpPath_pure {L : Act → World → Prop} {w : World} {r : Path} {a : Act} {i : Nat} {o : Oper} {v : Value} (hi : ops[i]? = some o) (hw : Region.wanted o (yielded ops a.tmps) = true) (hr : ∀ W, (execOp a.eval o).run P W = .ok (.value v) W)
    (hk : wpPath P ops L r (a.put o.dst v) w) : wpPath P ops L ((i, 2) :: r) a w :=
  ⟨o, v, hi, fun V => .inl ⟨hw, fun W _ => by rw [hr W]; exact ⟨rfl, Below.refl _ _⟩⟩, hk⟩
/-- A store. -/
theorem gOp_skip {i : Nat} {o : Oper} {a : Act} {W W' : World} {K : Act → World → Prop} (hi : ops[i]? = some o) (hw : Region.wanted o (yielded ops a.tmps) = true)
    (hr : (execOp a.eval o).run P W = .ok .skip W') (hk : K (a.put o.dst undef) W') : gOp P ops i K a W := by
  unfold gOp
  simp only [hi]
  rw [if_pos hw, hr]
  exact hk
theorem pick_map {l : List Oper} (s : List Nat) (h : ((s.map fun i => (l[i]?).isSome).all fun b => b) = true) : (s.map fun i => l.toArray[i]?) = (s.map (opOf l)).map some := by
  induction s with
  | nil => rfl
  | cons i s ih =>
    simp only [List.map_cons, List.all_cons, Bool.and_eq_true] at h
    obtain ⟨o, ho⟩ := Option.isSome_iff_exists.1 h.1
    rw [List.map_cons, List.map_cons, List.map_cons, ih h.2, List.getElem?_toArray, ho, opOf, ho]; rfl
/-- The path's beginning: settled ones. -/
theorem wp_region_seg {id : Nat} {Q : Exit → Act → World → Prop} {a : Act} {w : World} {l : List Oper} (s : List Nat) (r : Path) (hm : P.follows .mixedOrders = true)
    (hB : pathAllB .any l.toArray (s.map (fun i => (i, 0)) ++ r) = true) (z : Nat) (hz : a.tmps.size = z) (hs : (((s.map fun i => (l[i]?).isSome).all fun b => b) && dstB z (s.map (opOf l))) = true)
    (h : ∃ A : Act, (∀ C, Grows w C → wpQuiet P l.toArray (fun W => ∃ x : In C, W = x.W) (fun a' => a' = A) (s.map (opOf l)) a) ∧ wpPath P l.toArray (fun a' W => Q .normal a' W) r A w) : (Code.region id l.toArray true).wp P Q a w := by
  rw [Bool.and_eq_true] at hs
  obtain ⟨A, hA, h2⟩ := h
  exact wp_region_path _ hm hB (wpPath_seg s _ a (pick_map s hs.1) (by rw [hz]; exact hs.2) hA h2)
section
variable {l : List Oper} {L : Act → World → Prop} {a : Act} {w : World} {r : Path} {k : Nat}
/-- Settled ones further on. -/
theorem wpPath_on (t : List Nat) (z : Nat) (hz : a.tmps.size = z) (ht : (((t.map fun i => (l[i]?).isSome).all fun b => b) && dstB z (t.map (opOf l))) = true)
    (h : ∃ B : Act, (∀ C, Grows w C → wpQuiet P l.toArray (fun W => ∃ x : In C, W = x.W) (fun a' => a' = B) (t.map (opOf l)) a) ∧ wpPath P l.toArray L r B w) : wpPath P l.toArray L (t.map (fun i => (i, 0)) ++ r) a w := by
  rw [Bool.and_eq_true] at ht
  obtain ⟨B, hB, h2⟩ := h
  exact wpPath_seg t _ a (pick_map t ht.1) (by rw [hz]; exact ht.2) hB h2
theorem op_is (hk : (l[k]?).isSome = true) : l.toArray[k]? = some (opOf l k) := by
  obtain ⟨o, ho⟩ := Option.isSome_iff_exists.1 hk
  rw [List.getElem?_toArray, ho, opOf, ho]; rfl
theorem wpPath_make (hk : (l[k]?).isSome = true) (h : ∀ W, Below w.heap.size w W → ∃ u W', Region.wanted (opOf l k) (yielded l.toArray a.tmps) = true ∧ (execOp a.eval (opOf l k)).run P W = .ok (.value u) W' ∧ Below W.heap.size W W' ∧
      wpPath P l.toArray L r (a.put (opOf l k).dst u) W') : wpPath P l.toArray L ((k, 1) :: r) a w := fun W hW => by
  obtain ⟨u, W', h1, h2, h3, h4⟩ := h W hW
  exact gOp_value (op_is hk) h1 h2 ⟨h3, h4⟩
theorem wpPath_free {v : Value} (hk : (l[k]?).isSome = true) (hw : Region.wanted (opOf l k) (yielded l.toArray a.tmps) = true) (hr : ∀ W, (execOp a.eval (opOf l k)).run P W = .ok (.value v) W)
    (h : wpPath P l.toArray L r (a.put (opOf l k).dst v) w) : wpPath P l.toArray L ((k, 2) :: r) a w := wpPath_pure (op_is hk) hw hr h
theorem wpPath_store (hk : (l[k]?).isSome = true) (h : ∀ W, Below w.heap.size w W → ∃ W', Region.wanted (opOf l k) (yielded l.toArray a.tmps) = true ∧ (execOp a.eval (opOf l k)).run P W = .ok .skip W' ∧
      wpPath P l.toArray L r (a.put (opOf l k).dst undef) W') : wpPath P l.toArray L ((k, 3) :: r) a w := fun W hW => by
  obtain ⟨W', h1, h2, h3⟩ := h W hW
  exact gOp_skip (op_is hk) h1 h2 h3
theorem wpPath_end (h : ∀ W, Below w.heap.size w W → L a W) : wpPath P l.toArray L [] a w := h
end
end
end Go.Proofs.Ytkddnknjjdenhaa.Vk
