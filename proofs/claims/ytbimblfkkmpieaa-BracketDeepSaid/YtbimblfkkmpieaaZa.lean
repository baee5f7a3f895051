/-
  Package words: the places after (at or after) a place, one by one; Starts, Ends; any iterator of places told by its list.
-/
import Derived.Test.YtbimblfkkmpieaaZi
import Derived.Deep.AppendSrc
set_option linter.unusedVariables false
set_option linter.unusedSimpArgs false
set_option maxRecDepth 100000
namespace Go.Proofs.Ytbimblfkkmpieaa.Wd
open Go Go.RowKit Go.Proofs.Ytbimblfkkmpieaa.Vk Go.Proofs.Ytbimblfkkmpieaa.Str Go.Proofs.Ytbimblfkkmpieaa.Ln Go.Proofs.Ytbimblfkkmpieaa.Cl Go.Proofs.Ytbimblfkkmpieaa.Mv Go.Shelf
attribute [local go_sem] Oper.semAt_some

theorem grown_below {V V2 : World} (h : Below V.heap.size V V2) : V.grownBy V2 none := ⟨h.os, h.tape, h.output, h.size, fun k hk _ => h.block k hk⟩
theorem knB {w Wi : World} (hB : w.heap.size ≤ Wi.heap.size) : ∀ (V : World) (l : Nat) (o o' : Obj), Wi.heap.size ≤ l → V.heap[l]? = some o → o.isCells = false → o.isWalk = false → Kn w V (V.putObj l o') :=
  fun V l o o' hl ho _ _ => Fr.grown (Fr.refl _ V) (grownBy_putObj' V l o') (fun k e _ => by cases e; show w.heap.size ≤ l; omega)
theorem own_at {α : Type} {B k : Nat} (hk : k < B) (O : Obj) : OwnFrom B (fun (_ : List α) (V : World) => V.heap[k]? = some O) :=
  fun s A B' row hs hg hr => (hg.block _ (Array.getElem?_eq_some_iff.1 hs).1 (fun e => by have := (hr _ e.symm).1; omega)).trans hs
theorem own_kn {α : Type} {w W : World} {B : Nat} (hB : w.heap.size ≤ B) : OwnFrom B (fun (_ : List α) (V : World) => Kn w W V) :=
  fun s A B' row hs hg hr => Fr.grown hs hg (fun k e _ => by have := (hr k e).1; show w.heap.size ≤ k; omega)

/-- Those of a list that keep a condition. -/
theorem flt_yes {pr : P2 → Bool} {xs pre rest : List P2} {x : P2} (h : xs = pre ++ x :: rest) (hx : pr x = true) : (∃ r, xs.filter pr = pre.filter pr ++ x :: r) ∧ (pre ++ [x]).filter pr = pre.filter pr ++ [x] := by
  subst h
  refine ⟨⟨rest.filter pr, ?_⟩, ?_⟩
  · rw [List.filter_append, List.filter_cons_of_pos hx]
  · rw [List.filter_append, List.filter_cons_of_pos hx]; rfl
theorem flt_no {pr : P2 → Bool} {pre : List P2} {x : P2} (hx : pr x = false) : (pre ++ [x]).filter pr = pre.filter pr := by
  rw [List.filter_append, List.filter_cons_of_neg (by rw [hx]; simp)]; simp

/-- A function value that tells a list of places. -/
def Tells (w : World) (v : Value) (m : Nat) (xs : List P2) : Prop :=
  ∃ g lb, v = .func (.func g) #[] lb ∧ (∀ args w', (callFunc g args).run Try.prog w' = .ok (.enter g args) w') ∧ Iter Try.prog g lb encp m (Kn w) xs w
theorem yieldAt_mono {F : Fence} {n : Nat} {P : Program} {l : Nat} {args : Array Value} {W : World} {R R' : Ending → World → Prop} (h : YieldAt F n P l args W R) (hR : ∀ e W', R e W' → R' e W') : YieldAt F n P l args W R' := by
  obtain ⟨fn, tmps, assign, body, hy, hRd⟩ := h
  exact ⟨fn, tmps, assign, body, hy, hRd.mono hR⟩
theorem iter_kp {α : Type} {P : Program} {g : Nat} {lb : Array Value} {encs : α → Array Value} {m : Nat} {Kp Kp' : World → World → Prop} {xs : List α} {w : World} (h : Iter P g lb encs m Kp xs w) (hk : ∀ A B, Kp' A B → Kp A B) : Iter P g lb encs m Kp' xs w :=
  fun l J Jx W hW hJ hJx hY h0 => h l J Jx W hW hJ hJx (fun pre x W1 hp hs hj => yieldAt_mono (hY pre x W1 hp hs hj) (fun e W' hh => ⟨hh.1, hh.2.imp (fun q => ⟨q.1, q.2.1, hk _ _ q.2.2⟩) id⟩)) h0
theorem kn_of {w w' A B : World} (hb : w.heap.size ≤ w'.heap.size) (h : Kn w' A B) : Kn w A B := h.mono (fun i _ e => Nat.le_trans hb e)
theorem Tells.later {w w' : World} {v : Value} {m : Nat} {xs : List P2} (h : Tells w v m xs) (hb : Below w.heap.size w w') : Tells w' v m xs := by
  obtain ⟨g, lb, h1, h2, h3⟩ := h
  exact ⟨g, lb, h1, h2, iter_kp (h3.later hb) (fun A B hh => kn_of hb.size hh)⟩

end Go.Proofs.Ytbimblfkkmpieaa.Wd
