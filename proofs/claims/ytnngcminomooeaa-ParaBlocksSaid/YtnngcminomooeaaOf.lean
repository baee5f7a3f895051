/-
  The document's runs (Runs).
-/
import Derived.Test.YtnngcminomooeaaOr
set_option linter.unusedVariables false
set_option linter.unusedSimpArgs false
set_option maxRecDepth 100000
namespace Go.Proofs.Ytnngcminomooeaa.Wo
open Go Go.RowKit Go.Proofs.Ytnngcminomooeaa.Vk Go.Proofs.Ytnngcminomooeaa.Str Go.Proofs.Ytnngcminomooeaa.Ln Go.Proofs.Ytnngcminomooeaa.Cl Go.Proofs.Ytnngcminomooeaa.Mv
attribute [local go_sem] Oper.semAt_some

/-- A row of one's own, made since w. -/
structure OwnR (w : World) (l : List RN) (N : Nat) (b : Option Addr) (cc : Nat) (V : World) : Prop where
  len : N = l.length
  own : V.ownsRow w.heap.size ER 2 (.slice b N cc) N (fl c2 l)
  bel : Below w.heap.size w V
section
variable {w V V' : World} {l : List RN} {N : Nat} {b : Option Addr} {cc : Nat}
theorem OwnR.nil (w : World) : OwnR w [] 0 none 0 w := ⟨rfl, World.ownsRow_nil _ _ _ _, Below.refl _ _⟩
theorem OwnR.below (h : OwnR w l N b cc V) (hb : Below V.heap.size V V') : OwnR w l N b cc V' :=
  ⟨h.len, ownsRow_fr h.own (Fr.ofBelow hb (fun _ => False)) (by simp), h.bel.trans (hb.mono h.bel.size)⟩
theorem OwnR.built (h : OwnR w l N b cc V) (o : Obj) : (V.alloc o).ownsRow w.heap.size ER 2 (.slice b N cc) N (fl c2 l) :=
  (h.below ((Below.refl _ V).alloc (Nat.le_refl _) o)).own
theorem OwnR.app {x : RN} {o : Obj} {ob : Option Addr} {oc : Nat} (h : OwnR w l N b cc V) (hown : V'.ownsRow w.heap.size ER 2 (.slice ob (N + 1) oc) (N + 1) (fl c2 l ++ c2 x)) (hg : (V.alloc o).grownBy V' (Value.slice b N cc).ownBlock) : OwnR w (l ++ [x]) (N + 1) ob oc V' := by
  have h1 := h.below ((Below.refl _ V).alloc (Nat.le_refl _) o)
  refine ⟨by rw [h.len]; simp, by rw [fl_append, fl_one]; exact hown, ?_⟩
  exact h1.bel.grown hg h1.bel.size (fun k e => (h1.own.lt k e).1)
theorem OwnR.some (h : OwnR w l N b cc V) (hN : 0 < N) : ∃ g, b = some ⟨g, 0, none⟩ := by
  rcases h.own.2 with ⟨_, h0⟩ | ⟨g, cap, cur, h, _⟩
  · omega
  · simp only [Value.slice.injEq] at h; exact ⟨g, h.1⟩
theorem OwnR.rs (h : OwnR w l N b cc V) : Rs V b N cc l := Rs.ofOwn h.own
theorem fl_set (P : List RN) (A i j : Nat) : (fl c2 (P ++ [(A, i)])).set (P.length * 2 + 1) (.int .i64 j) = fl c2 (P ++ [(A, j)]) := by
  rw [fl_append, fl_append, fl_one, fl_one, List.set_append_right _ _ (by rw [fl_length c2_len]; omega), fl_length c2_len, show P.length * 2 + 1 - P.length * 2 = 1 by omega]
  rfl
theorem OwnR.set {P : List RN} {A i g : Nat} (h : OwnR w (P ++ [(A, i)]) N (Option.some ⟨g, 0, none⟩) cc V) (j : Nat) : OwnR w (P ++ [(A, j)]) N (Option.some ⟨g, 0, none⟩) cc (V.setCell ⟨g, P.length * 2 + 1, none⟩ (.int .i64 j)) := by
  have hst := h.own.stored (P.length * 2 + 1) (.int .i64 j)
  refine ⟨by rw [h.len]; simp, by rw [← fl_set P A i j]; exact hst.1, ?_⟩
  exact h.bel.grown hst.2 h.bel.size (fun k e => by have := (h.own.lt g rfl).1; injection e with e; omega)
end
theorem pr_split {s : ByteArray} {b : Bool} {i : Nat} (h : 0 < i) : ∃ (P : List RN) (A : Nat), pr s b i = P ++ [(A, i)] ∧ (kl s b i = kl s b (i - 1) → pr s b (i + 1) = P ++ [(A, i + 1)]) := by
  have hne := pr_pos (s := s) (b := b) h
  have hg := pr_rg (s := s) (b := b) i
  obtain ⟨l, hl⟩ : ∃ l, l = pr s b i := ⟨_, rfl⟩
  have hj := fun e => pr_join (s := s) (b := b) h e
  rw [← hl] at hne hg hj ⊢
  obtain ⟨P, x, hPx⟩ : ∃ P x, l = P ++ [x] := ⟨l.dropLast, l.getLast hne, (List.dropLast_concat_getLast hne).symm⟩
  subst hPx
  have h2 := hg.last P.length (by simp)
  have e : (P ++ [x])[P.length]'(by simp) = x := by simp
  rw [e] at h2
  obtain ⟨x1, x2⟩ := x
  simp only at h2
  subst h2
  exact ⟨P, x1, rfl, fun e => by rw [hj e]; simp⟩

end Go.Proofs.Ytnngcminomooeaa.Wo
