/-
  Motions of whatever layer: the two variables that each makes at its beginning; two motions held against one another; a place's variable made and written in a drawn region. (The same as in the texts of layer 7, on their own.)
-/
import Derived.Test.YthlneojhkhhmbaaMv
import Derived.Test.YthlneojhkhhmbaaMo
import Derived.Test.YthlneojhkhhmbaaSo
import Derived.Test.YthlneojhkhhmbaaQf
set_option linter.unusedVariables false
set_option linter.unusedSimpArgs false
set_option maxRecDepth 100000
namespace Go.Proofs.Ythlneojhkhhmbaa.Mv
open Go Go.RowKit Go.Proofs.Ythlneojhkhhmbaa.Vk Go.Proofs.Ythlneojhkhhmbaa.Str Go.Proofs.Ythlneojhkhhmbaa.Ln Go.Proofs.Ythlneojhkhhmbaa.Cl
attribute [local go_sem] Oper.semAt_some

/-- The first two variables of a motion: the place, the answer. -/
structure Two (w W : World) (l c : Int) : Prop where
  below : Below w.heap.size w W
  size : w.heap.size + 2 ≤ W.heap.size
  pos : PosAt W w.heap.size l c
  mv : MvAt W (w.heap.size + 1) 0 0 0 false 0
theorem Two.new (w : World) (l c : Int) : Two w ((w.alloc (.cells #[.int .i64 l, .int .i64 c] 27)).alloc (.cells #[.int .i64 0, .int .i64 0, .int .i64 0, .bool false, .int .i64 0] 40)) l c :=
  ⟨two_below _ _ _, by simp, (PosAt.new w l c).below ((Below.refl _ _).alloc (Nat.le_refl _) _) (by simp), two_new w _ _⟩
theorem Two.on {w W W' : World} {l c : Int} (h : Two w W l c) (hb : Below W.heap.size W W') : Two w W' l c :=
  ⟨h.below.trans (hb.mono h.below.size), Nat.le_trans h.size hb.size, h.pos.below hb h.pos.lt, h.mv.below hb h.mv.lt⟩
theorem Two.put {w W : World} {l c : Int} (h : Two w W l c) {g : Nat} (hg : w.heap.size + 2 ≤ g) (a b d want : Int) (j : Bool) : Two w (put5 W g a b d j want) l c :=
  ⟨put5_below h.below (by omega) _ _ _ _ _, by rw [put5_size]; exact h.size, h.pos.other5 (by omega), h.mv.other5 (by omega)⟩
theorem Two.set {w W : World} {l c : Int} (h : Two w W l c) {g : Nat} (hg : w.heap.size + 2 ≤ g) (k : Nat) (v : Value) : Two w (W.setCell ⟨g, k, none⟩ v) l c :=
  ⟨h.below.setCell (p := ⟨g, k, none⟩) (Nat.le_trans (by omega) hg) _, by simpa using h.size, h.pos.other (by omega), h.mv.other (by omega)⟩
theorem Two.ret {w W : World} {l c : Int} (h : Two w W l c) (a b d want : Int) (j : Bool) : MvAt (put5 W (w.heap.size + 1) a b d j want) (w.heap.size + 1) a b d j want ∧ Below w.heap.size w (put5 W (w.heap.size + 1) a b d j want) :=
  ⟨h.mv.put _ _ _ _ _, put5_below h.below (by omega) _ _ _ _ _⟩

/-- Two motions are held against one another. -/
theorem eq_mv (l c y q l' c' y' q' : Int) (j j' : Bool) (w : World) : (binOp .eql 40 (mvv l c y j q) (mvv l' c' y' j' q')).run Try.prog w = .ok (.bool (decide (l = l' ∧ c = c' ∧ y = y' ∧ j = j' ∧ q = q'))) w := by
  have hS : Try.prog.underlying 40 = some (.struct (Try.prog.fieldsOf 40)) := by kernel_rfl
  have hp : Try.prog.stoodInHeld 40 = false := by kernel_rfl
  have hS2 : Try.prog.underlying 27 = some (.struct (Try.prog.fieldsOf 27)) := by kernel_rfl
  have hp2 : Try.prog.stoodInHeld 27 = false := by kernel_rfl
  rw [run_eql_struct, show (10000 : Nat) = 9999 + 1 from rfl, run_equalIn_agg w 9999 40 _ _ hS hp]
  have hin : ∀ W : World, (Op.equalIn 9999 27 (.agg #[.int .i64 l, .int .i64 c]) (.agg #[.int .i64 l', .int .i64 c'])).run Try.prog W = .ok (decide (l = l') && decide (c = c')) W := fun W => by
    rw [show (9999 : Nat) = 9998 + 1 from rfl, run_equalIn_agg W 9998 27 _ _ hS2 hp2]
    simp only [Program.fieldsOf, Try.underlying27]
    go_simp
    by_cases h1 : l = l' <;> by_cases h2 : c = c' <;> simp [h1, h2]
  have p1 : ∀ W : World, (part 27 #[.int .i64 l, .int .i64 c, .int .i64 y, .bool j, .int .i64 q] 0).run Try.prog W = .ok (.agg #[.int .i64 l, .int .i64 c]) W := fun _ => by kernel_rfl
  have p2 : ∀ W : World, (part 27 #[.int .i64 l', .int .i64 c', .int .i64 y', .bool j', .int .i64 q'] 0).run Try.prog W = .ok (.agg #[.int .i64 l', .int .i64 c']) W := fun _ => by kernel_rfl
  simp only [Program.fieldsOf, Try.underlying40, Op.eqFields, Sem.run_bind, Sem.run_ite, p1, p2, hin, Result.andThen_ok, ne_eq, String.reduceEq, not_false_eq_true, if_true]
  by_cases h1 : l = l'
  · by_cases h2 : c = c'
    · subst h1 h2
      clear hin p1 p2
      simp only [decide_true, Bool.and_self, Bool.not_true, Bool.false_eq_true, if_false]
      go_simp
      by_cases h3 : y = y' <;> by_cases h4 : j = j' <;> by_cases h5 : q = q' <;> simp [h3, h4, h5]
    · simp [h1, h2]
  · simp [h1]

def mvCells (l c y : Int) (j : Bool) (q : Int) : Obj := .cells #[.int .i64 l, .int .i64 c, .int .i64 y, .bool j, .int .i64 q] 40
/-- A motion's answer, laid into a variable of its own. -/
theorem laid {w w' : World} {l c y q : Int} {j : Bool} (hb : Below w.heap.size w w') : Below w.heap.size w (w'.alloc (mvCells l c y j q)) ∧ MvAt (w'.alloc (mvCells l c y j q)) w'.heap.size l c y j q ∧ w.heap.size ≤ w'.heap.size ∧ (w'.alloc (mvCells l c y j q)).heap.size = w'.heap.size + 1 :=
  ⟨hb.alloc hb.size _, MvAt.new _ _ _ _ _ _, hb.size, by simp⟩

/-- A place's variable, made and written. -/
theorem run_pos (W : World) : (do let v ← Instr.alloc 27 true (.tuple #[]); pure (Next.value v) : Sem Next).run Try.prog W = .ok (.value (.pointer (some ⟨W.heap.size, 0, none⟩))) (W.alloc (.cells #[.int .i64 0, .int .i64 0] 27)) := by
  go_simp
theorem run_store_pos {W : World} {g : Nat} {l c l' c' : Int} (h : PosAt W g l c) :
    (do Instr.storeAt 27 (.pointer (some ⟨g, 0, none⟩)) (.agg #[.int .i64 l', .int .i64 c']); pure Next.skip : Sem Next).run Try.prog W = .ok .skip ((W.setCell ⟨g, 0, none⟩ (.int .i64 l')).setCell ⟨g, 1, none⟩ (.int .i64 c')) := by
  have m0 := h.c0
  have m1 := h.c1
  have z := fun k => frozen_of_row W g k _ _ h
  go_simp
theorem Two.setp {w W : World} {l c : Int} (h : Two w W l c) {g : Nat} (hg : w.heap.size + 2 ≤ g) (x y : Int) : Two w ((W.setCell ⟨g, 0, none⟩ (.int .i64 x)).setCell ⟨g, 1, none⟩ (.int .i64 y)) l c :=
  (h.set hg 0 _).set hg 1 _

end Go.Proofs.Ythlneojhkhhmbaa.Mv
