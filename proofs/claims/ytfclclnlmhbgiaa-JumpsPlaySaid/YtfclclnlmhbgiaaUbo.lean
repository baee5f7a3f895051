/-
  The package's list beside the document's: each call, told for both.
-/
import Derived.Test.YtfclclnlmhbgiaaUe
set_option linter.unusedVariables false
set_option linter.unusedSimpArgs false
set_option maxRecDepth 100000
namespace Go.Proofs.Ytfclclnlmhbgiaa.Jp
open Go Go.RowKit Go.Proofs.Ytfclclnlmhbgiaa.Vk Go.Proofs.Ytfclclnlmhbgiaa.Str Go.Proofs.Ytfclclnlmhbgiaa.Ln Go.Proofs.Ytfclclnlmhbgiaa.Cl Go.Proofs.Ytfclclnlmhbgiaa.Ml Go.Proofs.Ytfclclnlmhbgiaa.Mk Go.Shelf
attribute [local go_sem] Oper.semAt_some

/-- Both, made behind w. -/
structure Bo (w : World) (l j : Nat) (ps : List P2) (a : Nat) (ps2 : List P2) (a2 : Nat) (W : World) : Prop where
  ls : LstE W l ps a
  rf : Rf W j ps2 a2
  ne : l ≠ j
  bel : Below w.heap.size w W
  hl : w.heap.size ≤ l
  hj : w.heap.size ≤ j
section
variable {w W V : World} {l j a a2 : Nat} {ps ps2 : List P2}
theorem Bo.below (h : Bo w l j ps a ps2 a2 W) (hb : Below W.heap.size W V) : Bo w l j ps a ps2 a2 V :=
  ⟨h.ls.below hb, Rf.below h.rf hb, h.ne, h.bel.trans (hb.mono h.bel.size), h.hl, h.hj⟩
theorem Bo.frl (h : Bo w l j ps a ps2 a2 W) {ps' : List P2} {a' : Nat} (hl : LstE V l ps' a') (hf : Fr (fun k => k = l) W V) : Bo w l j ps' a' ps2 a2 V := by
  obtain ⟨B, p, r, h1⟩ := h.ls
  exact ⟨hl, Rf.fr h.rf hf (fun e => h.ne e.symm) h1.1 (by decide), h.ne, h.bel.trans (hf.below h.bel.size (fun k e => by have := h.hl; omega)), h.hl, h.hj⟩
theorem Bo.frj (h : Bo w l j ps a ps2 a2 W) {ps' : List P2} {a' : Nat} (hr : Rf V j ps' a') (hf : Fr (fun k => k = j) W V) : Bo w l j ps a ps' a' V := by
  obtain ⟨b, c, h1, _⟩ := h.rf
  exact ⟨h.ls.fr hf h.ne h1 (by decide) (by decide), hr, h.ne, h.bel.trans (hf.below h.bel.size (fun k e => by have := h.hj; omega)), h.hl, h.hj⟩
end
/-- All lines lie within M. -/
def BndP (M : Int) (ps : List P2) : Prop := ∀ q ∈ ps, -M ≤ q.1 ∧ q.1 ≤ M
theorem BndP.mono {M N : Int} {ps : List P2} (h : BndP M ps) (hn : M ≤ N) : BndP N ps := fun q hq => by have := h q hq; omega
theorem mem_push {ps : List P2} {p q : P2} (h : q ∈ pshL ps p) : q ∈ ps ∨ q = p := by
  have h2 : q ∈ ps.filterMap (fP p.1) ++ [p] := by
    unfold pshL at h
    split at h
    · exact List.mem_of_mem_drop h
    · exact h
  rcases List.mem_append.1 h2 with h2 | h2
  · obtain ⟨x, hx, hxq⟩ := List.mem_filterMap.1 h2
    have := fP_some hxq
    exact .inl (by rw [← this]; exact hx)
  · exact .inr (List.mem_singleton.1 h2)
theorem BndP.push {M : Int} {ps : List P2} {p : P2} (h : BndP M ps) (hp : -M ≤ p.1 ∧ p.1 ≤ M) : BndP M (pshL ps p) := fun q hq => by
  rcases mem_push hq with h1 | rfl
  · exact h q h1
  · exact hp
theorem BndP.old {M : Int} {ps : List P2} {at' : Nat} {p : P2} (h : BndP M ps) (hp : -M ≤ p.1 ∧ p.1 ≤ M) : BndP M (olL ps at' p) := by
  unfold olL; split
  · exact h.push hp
  · exact h
theorem shf_bnd {z a o n l : Int} {M : Int} (h : shf z a o n = some l) (hz : -M ≤ z ∧ z ≤ M) (hn : -6 < o ∧ o < 6 ∧ -6 < n ∧ n < 6) : -(M + 6) ≤ l ∧ l ≤ M + 6 := by
  unfold shf at h
  split at h
  · cases h; omega
  · split at h
    · split at h
      · cases h; omega
      · cases h
    · cases h; omega
theorem BndP.adj {M a o n : Int} {ps : List P2} (h : BndP M ps) (hn : -6 < o ∧ o < 6 ∧ -6 < n ∧ n < 6) : BndP (M + 6) (adjL ps a o n) := fun y hy => by
  obtain ⟨x, hx, hxy⟩ := List.mem_filterMap.1 hy
  unfold fA at hxy
  cases hs : shf x.1 a o n with
  | none => rw [hs] at hxy; cases hxy
  | some l =>
    rw [hs] at hxy
    simp only [Option.map_some, Option.some.injEq] at hxy
    rw [← hxy]
    exact shf_bnd hs (h x hx) hn
theorem adjN_le (ps : List P2) (at' : Nat) (a o n : Int) : adjN ps at' a o n ≤ (adjL ps a o n).length :=
  ((List.take_sublist at' ps).filterMap (fA a o n)).length_le
theorem adjL_le {ps : List P2} (a o n : Int) (h : ps.length ≤ 16) : (adjL ps a o n).length ≤ 16 := Nat.le_trans (List.length_filterMap_le _ _) h
theorem ans_form (ok : Bool) (q : P2) : ∃ (x y : Int) (o : Bool), ansV ok q = .tuple #[.agg #[.int .i64 x, .int .i64 y], .bool o] := by
  cases ok
  · exact ⟨0, 0, false, rfl⟩
  · exact ⟨q.1, q.2, true, rfl⟩
theorem olr_le {ps : List P2} {at' : Nat} {q : P2} {v : Int} (h : ps.length ≤ 16) : (if olOk at' v then olL ps at' q else ps).length ≤ 16 := by
  split
  · exact olL_le h
  · exact h
theorem olr_at {ps : List P2} {at' : Nat} {q : P2} {v : Int} (h : at' ≤ ps.length) : (if olOk at' v then olI ps at' q v else at') ≤ (if olOk at' v then olL ps at' q else ps).length := by
  split
  · exact Nat.le_of_lt (olI_lt h)
  · exact h
theorem olr_bnd {ps : List P2} {at' : Nat} {q : P2} {v M : Int} (h : BndP M ps) (hq : -M ≤ q.1 ∧ q.1 ≤ M) : BndP M (if olOk at' v then olL ps at' q else ps) := by
  split
  · exact h.old hq
  · exact h
theorem nwr_at {ps : List P2} {at' : Nat} {v : Int} (h : at' ≤ ps.length) : (if nwOk ps at' v then at' + v.toNat else at') ≤ ps.length := by
  split
  · rename_i h1; unfold nwOk at h1; simp only [decide_eq_true_eq] at h1; omega
  · exact h
/-- What stands in a round of JumpsPlay. -/
structure Rel (w : World) (l j k : Nat) (ps : List P2) (a : Nat) (W : World) : Prop where
  bo : Bo w l j ps a ps a W
  le : ps.length ≤ 16
  at' : a ≤ ps.length
  bnd : BndP (40 + 6 * (k : Int)) ps
theorem Rel.below {w W V : World} {l j k a : Nat} {ps : List P2} (h : Rel w l j k ps a W) (hb : Below W.heap.size W V) : Rel w l j k ps a V := ⟨h.bo.below hb, h.le, h.at', h.bnd⟩
end Go.Proofs.Ytfclclnlmhbgiaa.Jp
