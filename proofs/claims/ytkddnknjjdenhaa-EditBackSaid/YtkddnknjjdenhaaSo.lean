/-
  Package span, and the document's answers to it: Less, Order.
-/
import Derived.Test.YtkddnknjjdenhaaCl
set_option linter.unusedVariables false
set_option linter.unusedSimpArgs false
set_option maxRecDepth 100000
namespace Go.Proofs.Ytkddnknjjdenhaa.So
open Go Go.RowKit Go.Proofs.Ytkddnknjjdenhaa.Vk Go.Proofs.Ytkddnknjjdenhaa.Str Go.Proofs.Ytkddnknjjdenhaa.Ln Go.Proofs.Ytkddnknjjdenhaa.Cl
attribute [local go_sem] Oper.semAt_some

/-- Is the first place ahead of the second? -/
def lt (a b c d : Int) : Bool := decide (a < c ∨ a = c ∧ b < d)
theorem ret_bool {p q : Bool} (h : p = q) : Ending.returned (.bool p) = Ending.returned (.bool q) := by rw [h]

theorem less_any (a b c d : Int) (w : World) : Calls Try.prog 64 #[.agg #[.int .i64 a, .int .i64 b], .agg #[.int .i64 c, .int .i64 d]] w fun e w' => e = .returned (.bool (lt a b c d)) ∧ Below w.heap.size w w' := by
  go_enter Try.func64, Try.ntmps64
  go_wp2
  all_goals go_ret
  all_goals refine ⟨ret_bool ?_, two_below _ _ _⟩
  all_goals unfold lt
  all_goals rw [decide_eq_decide]
  all_goals simp only [bne_iff_ne, ne_eq, beq_iff_eq, beq_eq_false_iff_ne, bne_eq_false_iff_eq] at *
  all_goals omega

theorem less5_any (a b c d : Int) (w : World) : Calls Try.prog 67 #[.agg #[.int .i64 a, .int .i64 b], .agg #[.int .i64 c, .int .i64 d]] w fun e w' => e = .returned (.bool (lt a b c d)) ∧ Below w.heap.size w w' := by
  go_enter Try.func67, Try.ntmps67
  go_wp2
  all_goals go_ret
  all_goals refine ⟨ret_bool ?_, two_below _ _ _⟩
  all_goals unfold lt
  all_goals first | (rw [decide_eq_decide]; omega) | exact (decide_eq_true (by omega)).symm

/-- Two structures are handed back out of their variables. -/
theorem results_cell_row2 {P : Program} {fn : Func} {p q : Tmp} {ty : TypeId} (h : fn.results = #[.cell p ty, .cell q ty]) (tmps : Array Value) (w : World) (g g' : Nat) (t t' : TypeId) (cs cs' : Array Value) (fr fr' : Nat × Nat) (d : TypeDesc)
    (hp : tmps.getD p undef = .pointer (some ⟨g, 0, none⟩)) (hg : w.heap[g]? = some (.cells cs t fr)) (hq : tmps.getD q undef = .pointer (some ⟨g', 0, none⟩)) (hg' : w.heap[g']? = some (.cells cs' t' fr'))
    (hu : P.underlying ty = some d) (hd : (match d with | .struct _ | .array _ _ => true | _ => false) = true) (hi : (P.info? ty).map (·.size) = some cs.size) (hi' : (P.info? ty).map (·.size) = some cs'.size) :
    (results fn tmps).run P w = .ok (.tuple #[.agg cs, .agg cs']) w := by
  have hp' : tmps[p]?.getD undef = .pointer (some ⟨g, 0, none⟩) := by simpa using hp
  have hq' : tmps[q]?.getD undef = .pointer (some ⟨g', 0, none⟩) := by simpa using hq
  simp [results, h, hp', hq', asAddr, run_loadVar_row w g t ty cs fr d hg hu hd hi, run_loadVar_row w g' t' ty cs' fr' d hg' hu hd hi']

theorem set2 {w : World} {g : Nat} {x0 x1 x y : Value} {t : TypeId} (h : w.heap[g]? = some (.cells #[x0, x1] t (0, 0))) :
    ((w.setCell ⟨g, 0, none⟩ x).setCell ⟨g, 1, none⟩ y).heap[g]? = some (.cells #[x, y] t (0, 0)) := by
  have h1 : (w.setCell ⟨g, 0, none⟩ x).heap[g]? = some (.cells #[x, x1] t (0, 0)) := (heap_setCell_same w g 0 _ _ x h).trans (by simp)
  exact (heap_setCell_same _ g 1 _ _ y h1).trans (by simp)
theorem set2_other {w : World} {g g' : Nat} {x y : Value} (h : g' ≠ g) : ((w.setCell ⟨g, 0, none⟩ x).setCell ⟨g, 1, none⟩ y).heap[g']? = w.heap[g']? :=
  (Below.heap_setCell _ _ _ _ h).trans (Below.heap_setCell _ _ _ _ h)
theorem below_set4 {B : Nat} {w w1 : World} {g0 g1 g2 g3 : Nat} {o0 o1 o2 o3 : Nat} {x y u v : Value} (h : Below B w w1) (h0 : B ≤ g0) (h1 : B ≤ g1) (h2 : B ≤ g2) (h3 : B ≤ g3) :
    Below B w ((((w1.setCell ⟨g0, o0, none⟩ x).setCell ⟨g1, o1, none⟩ y).setCell ⟨g2, o2, none⟩ u).setCell ⟨g3, o3, none⟩ v).drew :=
  ((((h.setCell (p := ⟨g0, o0, none⟩) h0 _).setCell (p := ⟨g1, o1, none⟩) h1 _).setCell (p := ⟨g2, o2, none⟩) h2 _).setCell (p := ⟨g3, o3, none⟩) h3 _).drew

/-- The four blocks that Order has. -/
theorem four_rows (w : World) (A B C D : Obj) : let W := (((w.alloc A).alloc B).alloc C).alloc D
    W.heap.size = w.heap.size + 4 ∧ W.heap[w.heap.size]? = some A ∧ W.heap[w.heap.size + 1]? = some B ∧ W.heap[w.heap.size + 2]? = some C ∧ W.heap[w.heap.size + 3]? = some D ∧ Below w.heap.size w W := by
  intro W
  have h0 : ∀ (x : World) (o : Obj), (x.alloc o).heap = x.heap.push o := fun _ _ => rfl
  refine ⟨by simp [W], ?_, ?_, ?_, ?_, ?_⟩
  all_goals try simp only [W, h0, Array.getElem?_push, Array.size_push]
  · rw [if_neg (by omega), if_neg (by omega), if_neg (by omega), if_pos trivial]
  · rw [if_neg (by omega), if_neg (by omega), if_pos trivial]
  · rw [if_neg (by omega), if_pos trivial]
  · rw [if_pos trivial]
  · exact ((((Below.refl _ w).alloc (Nat.le_refl _) A).alloc (by simp) B).alloc (by simp; omega) C).alloc (by simp; omega) D

end Go.Proofs.Ytkddnknjjdenhaa.So
