/-
  Motions: a place of the text; a motion's result (a struct and a bool) handed back out of its variable; the document's helps Place, may, none, to, capped, last.
-/
import Derived.Test.YtkddnknjjdenhaaCl
import Derived.Test.YtkddnknjjdenhaaQp
import Derived.Laws.StructEq
import Derived.Deep.CutRange
import Derived.Deep.CutBlock
set_option linter.unusedVariables false
set_option linter.unusedSimpArgs false
set_option maxRecDepth 100000
namespace Go.Proofs.Ytkddnknjjdenhaa.Mv
open Go Go.RowKit Go.Proofs.Ytkddnknjjdenhaa.Vk Go.Proofs.Ytkddnknjjdenhaa.Str Go.Proofs.Ytkddnknjjdenhaa.Ln Go.Proofs.Ytkddnknjjdenhaa.Cl
attribute [local go_sem] Oper.semAt_some

theorem ret_bool {p q : Bool} (h : p = q) : Ending.returned (.bool p) = Ending.returned (.bool q) := by rw [h]
theorem cell_one {w : World} {p : Addr} {v : Value} (h : w.cell? p = some v) (O : Obj) : (w.alloc O).cell? p = some v :=
  cell_later ((Below.refl _ w).alloc (Nat.le_refl _) O) h

/-- A place of the text. -/
def Plc (ls : List ByteArray) (l c : Int) : Prop := 0 ≤ l ∧ l < ls.length ∧ 0 ≤ c ∧ c ≤ (lineAt ls l.toNat).size
instance (ls : List ByteArray) (l c : Int) : Decidable (Plc ls l c) := by unfold Plc; infer_instance
theorem Plc.nat {ls : List ByteArray} {l c : Int} (h : Plc ls l c) : ∃ i k : Nat, l = i ∧ c = k ∧ i < ls.length ∧ k ≤ (lineAt ls i).size := by
  obtain ⟨h1, h2, h3, h4⟩ := h
  exact ⟨l.toNat, c.toNat, by omega, by omega, by omega, by omega⟩

/-- Two places are held against one another. -/
theorem eq_pos (a b c d : Int) (w : World) : (binOp .eql 24 (.agg #[.int .i64 a, .int .i64 b]) (.agg #[.int .i64 c, .int .i64 d])).run Try.prog w = .ok (.bool (decide (a = c) && decide (b = d))) w := by
  have hS : Try.prog.underlying 24 = some (.struct (Try.prog.fieldsOf 24)) := by kernel_rfl
  have hp : Try.prog.stoodInHeld 24 = false := by kernel_rfl
  rw [run_eql_struct, show (10000 : Nat) = 9999 + 1 from rfl, run_equalIn_agg w 9999 24 _ _ hS hp]
  simp only [Program.fieldsOf, Try.underlying24]
  go_simp
  by_cases h1 : a = c <;> by_cases h2 : b = d <;> simp [h1, h2]

/-- What a motion answers. -/
structure R where
  l : Int
  c : Int
  way : Int
  j : Bool
  want : Int
  ok : Bool
def R.no : R := ⟨0, 0, 0, false, 0, false⟩
def R.to (l c : Int) : R := ⟨l, c, 0, false, -1, true⟩
/-- The motion, the two together. -/
abbrev mvv (l c wy : Int) (j : Bool) (want : Int) : Value := .agg #[.int .i64 l, .int .i64 c, .int .i64 wy, .bool j, .int .i64 want]
abbrev R.v (r : R) : Value := .tuple #[.agg #[.int .i64 r.l, .int .i64 r.c, .int .i64 r.way, .bool r.j, .int .i64 r.want], .bool r.ok]
def PosAt (w : World) (g : Nat) (l c : Int) : Prop := w.heap[g]? = some (.cells #[.int .i64 l, .int .i64 c] 24 (0, 0))
section
variable {w w' : World} {g g' B : Nat} {l c wy want : Int} {j : Bool}
theorem PosAt.below (h : PosAt w g l c) (hb : Below B w w') (hg : g < B) : PosAt w' g l c := (hb.block g hg).trans h
theorem PosAt.lt (h : PosAt w g l c) : g < w.heap.size := (Array.getElem?_eq_some_iff.1 h).1
theorem PosAt.c0 (h : PosAt w g l c) : w.cell? ⟨g, 0, none⟩ = some (.int .i64 l) := (cell_of_row w _ 0 _ _ _ h).trans (by simp)
theorem PosAt.c1 (h : PosAt w g l c) : w.cell? ⟨g, 1, none⟩ = some (.int .i64 c) := (cell_of_row w _ 1 _ _ _ h).trans (by simp)
theorem PosAt.new (w : World) (l c : Int) : PosAt (w.alloc (.cells #[.int .i64 l, .int .i64 c] 24)) w.heap.size l c := heap_alloc_new w _
/-- A variable is written anew. -/
def put5 (w : World) (g : Nat) (l c wy : Int) (j : Bool) (want : Int) : World :=
  ((((w.setCell ⟨g, 0, none⟩ (.int .i64 l)).setCell ⟨g, 1, none⟩ (.int .i64 c)).setCell ⟨g, 2, none⟩ (.int .i64 wy)).setCell ⟨g, 3, none⟩ (.bool j)).setCell ⟨g, 4, none⟩ (.int .i64 want)
theorem put5_below {W : World} (h : Below B W w) (hg : B ≤ g) (l c wy want : Int) (j : Bool) : Below B W (put5 w g l c wy j want) :=
  ((((h.setCell (p := ⟨g, 0, none⟩) hg _).setCell (p := ⟨g, 1, none⟩) hg _).setCell (p := ⟨g, 2, none⟩) hg _).setCell (p := ⟨g, 3, none⟩) hg _).setCell (p := ⟨g, 4, none⟩) hg _
theorem PosAt.other5 {l' c' wy' want' : Int} {j' : Bool} (h : PosAt w g l c) (hg : g ≠ g') : PosAt (put5 w g' l' c' wy' j' want') g l c :=
  ((Below.heap_setCell _ _ _ _ hg).trans ((Below.heap_setCell _ _ _ _ hg).trans ((Below.heap_setCell _ _ _ _ hg).trans ((Below.heap_setCell _ _ _ _ hg).trans (Below.heap_setCell _ _ _ _ hg))))).trans h
theorem PosAt.other {k : Nat} {v : Value} (h : PosAt w g l c) (hg : g ≠ g') : PosAt (w.setCell ⟨g', k, none⟩ v) g l c := (Below.heap_setCell _ _ _ _ hg).trans h
theorem put5_size : (put5 w g l c wy j want).heap.size = w.heap.size := by unfold put5; simp
theorem put5_other (h : g' ≠ g) : (put5 w g l c wy j want).heap[g']? = w.heap[g']? :=
  (Below.heap_setCell _ _ _ _ h).trans ((Below.heap_setCell _ _ _ _ h).trans ((Below.heap_setCell _ _ _ _ h).trans ((Below.heap_setCell _ _ _ _ h).trans (Below.heap_setCell _ _ _ _ h))))
end
/-- A row of values. -/
def RowAt (w : World) (g : Nat) (cs : Array Value) (t : TypeId) : Prop := w.heap[g]? = some (.cells cs t (0, 0))
theorem RowAt.below {w w' : World} {g B : Nat} {cs : Array Value} {t : TypeId} (h : RowAt w g cs t) (hb : Below B w w') (hg : g < B) : RowAt w' g cs t := (hb.block g hg).trans h
theorem RowAt.lt {w : World} {g : Nat} {cs : Array Value} {t : TypeId} (h : RowAt w g cs t) : g < w.heap.size := (Array.getElem?_eq_some_iff.1 h).1
theorem RowAt.at {w : World} {g k : Nat} {cs : Array Value} {t : TypeId} {v : Value} (h : RowAt w g cs t) (hv : cs[k]? = some v) : w.cell? ⟨g, k, none⟩ = some v := (cell_of_row w _ k _ _ _ h).trans hv
theorem RowAt.new (w : World) (cs : Array Value) (t : TypeId) : RowAt (w.alloc (.cells cs t)) w.heap.size cs t := heap_alloc_new w _
theorem RowAt.other5 {w : World} {g g' : Nat} {cs : Array Value} {t : TypeId} {l' c' wy' want' : Int} {j' : Bool} (h : RowAt w g cs t) (hg : g ≠ g') : RowAt (put5 w g' l' c' wy' j' want') g cs t :=
  ((Below.heap_setCell _ _ _ _ hg).trans ((Below.heap_setCell _ _ _ _ hg).trans ((Below.heap_setCell _ _ _ _ hg).trans ((Below.heap_setCell _ _ _ _ hg).trans (Below.heap_setCell _ _ _ _ hg))))).trans h
/-- A structure in its variable and a second result. -/
theorem results_cell_tmp {P : Program} {fn : Func} {p q : Tmp} {ty : TypeId} (h : fn.results = #[.cell p ty, .tmp q]) (tmps : Array Value) (w : World) (g : Nat) (t : TypeId) (cs : Array Value) (fr : Nat × Nat) (d : TypeDesc) (v : Value)
    (hp : tmps.getD p undef = .pointer (some ⟨g, 0, none⟩)) (hg : w.heap[g]? = some (.cells cs t fr)) (hq : tmps.getD q undef = v)
    (hu : P.underlying ty = some d) (hd : (match d with | .struct _ | .array _ _ => true | _ => false) = true) (hi : (P.info? ty).map (·.size) = some cs.size) :
    (results fn tmps).run P w = .ok (.tuple #[.agg cs, v]) w := by
  have hp' : tmps[p]?.getD undef = .pointer (some ⟨g, 0, none⟩) := by simpa using hp
  have hq' : tmps[q]?.getD undef = v := by simpa using hq
  simp [results, h, hp', hq', asAddr, run_loadVar_row w g t ty cs fr d hg hu hd hi]
theorem run_two_places (l c l' c' : Int) (W : World) : (do let v ← Instr.buildSlice 29 2 #[(0, .agg #[.int .i64 l, .int .i64 c]), (1, .agg #[.int .i64 l', .int .i64 c'])]; pure (Next.value v) : Sem Next).run Try.prog W =
    .ok (.value (.slice (some ⟨W.heap.size, 0, none⟩) 2 2)) (W.alloc (.cells #[.int .i64 l, .int .i64 c, .int .i64 l', .int .i64 c'] 24)) := by
  go_simp
theorem run_extract (x y : Value) (W : World) : (do let v ← Instr.extract (.tuple #[x, y]) 1; pure (Next.value v) : Sem Next).run Try.prog W = .ok (.value y) W := by
  go_simp

end Go.Proofs.Ytkddnknjjdenhaa.Mv
