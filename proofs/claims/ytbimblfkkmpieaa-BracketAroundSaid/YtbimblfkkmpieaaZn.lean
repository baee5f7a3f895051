/-
  Package words: the n-th of the places that an iterator tells (nth).
-/
import Derived.Test.YtbimblfkkmpieaaZa
set_option linter.unusedVariables false
set_option linter.unusedSimpArgs false
set_option maxRecDepth 100000
namespace Go.Proofs.Ytbimblfkkmpieaa.Wd
open Go Go.RowKit Go.Proofs.Ytbimblfkkmpieaa.Vk Go.Proofs.Ytbimblfkkmpieaa.Str Go.Proofs.Ytbimblfkkmpieaa.Ln Go.Proofs.Ytbimblfkkmpieaa.Cl Go.Proofs.Ytbimblfkkmpieaa.Mv Go.Shelf
attribute [local go_sem] Oper.semAt_some

theorem three_rows (w : World) (A B C : Obj) : let W := ((w.alloc A).alloc B).alloc C
    W.heap.size = w.heap.size + 3 ∧ W.heap[w.heap.size]? = some A ∧ W.heap[w.heap.size + 1]? = some B ∧ W.heap[w.heap.size + 2]? = some C ∧ Below w.heap.size w W := by
  intro W
  have h0 : ∀ (x : World) (o : Obj), (x.alloc o).heap = x.heap.push o := fun _ _ => rfl
  refine ⟨by simp [W], ?_, ?_, ?_, ?_⟩
  all_goals try simp only [W, h0, Array.getElem?_push, Array.size_push]
  · rw [if_neg (by omega), if_neg (by omega), if_pos trivial]
  · rw [if_neg (by omega), if_pos trivial]
  · rw [if_pos trivial]
  · exact (((Below.refl _ w).alloc (Nat.le_refl _) A).alloc (by simp) B).alloc (by simp; omega) C
/-- A place and a bool, each handed back out of its variable. -/
theorem results_pos_bool {fn : Func} {p q : Tmp} (h : fn.results = #[.cell p 24, .cell q 4]) (tmps : Array Value) (w : World) (g g' : Nat) (l c : Int) (ok : Bool)
    (hp : tmps.getD p undef = .pointer (some ⟨g, 0, none⟩)) (hq : tmps.getD q undef = .pointer (some ⟨g', 0, none⟩)) (hg : PosAt w g l c) (hc : w.cell? ⟨g', 0, none⟩ = some (.bool ok)) :
    (results fn tmps).run Try.prog w = .ok (.tuple #[.agg #[.int .i64 l, .int .i64 c], .bool ok]) w := by
  have hp' : tmps[p]?.getD undef = .pointer (some ⟨g, 0, none⟩) := by simpa using hp
  have hq' : tmps[q]?.getD undef = .pointer (some ⟨g', 0, none⟩) := by simpa using hq
  have h0 := hg.c0
  have h1 := hg.c1
  clear hg
  simp only [results, h]
  go_simp
/-- The place's variable written anew. -/
theorem PosAt.set {w : World} {g : Nat} {l c : Int} (h : PosAt w g l c) (l' c' : Int) : PosAt ((w.setCell ⟨g, 0, none⟩ (.int .i64 l')).setCell ⟨g, 1, none⟩ (.int .i64 c')) g l' c' := So.set2 h

def nthU (x : P2 × Bool) : Value := .tuple #[.agg #[.int .i64 x.1.1, .int .i64 x.1.2], .bool x.2]

end Go.Proofs.Ytbimblfkkmpieaa.Wd
