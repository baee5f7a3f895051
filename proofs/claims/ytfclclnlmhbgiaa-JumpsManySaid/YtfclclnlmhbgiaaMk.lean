/-
  Marks: a place in a variable; the map's block, told by the list of the marks that are set; what a look-up, a store and a delete make of it.
-/
import Derived.Test.YtfclclnlmhbgiaaCl
import Derived.Test.YtfclclnlmhbgiaaQp
import Derived.Test.YtfclclnlmhbgiaaMl
import Derived.Maps.OwnSet
import Derived.Laws.StructEq
set_option linter.unusedVariables false
set_option linter.unusedSimpArgs false
set_option maxRecDepth 100000
namespace Go.Proofs.Ytfclclnlmhbgiaa.Mk
open Go Go.RowKit Go.Proofs.Ytfclclnlmhbgiaa.Vk Go.Proofs.Ytfclclnlmhbgiaa.Str Go.Proofs.Ytfclclnlmhbgiaa.Ln Go.Proofs.Ytfclclnlmhbgiaa.Cl Go.Proofs.Ytfclclnlmhbgiaa.Ml
attribute [local go_sem] Oper.semAt_some

theorem ret_bool {p q : Bool} (h : p = q) : Ending.returned (.bool p) = Ending.returned (.bool q) := by rw [h]
/-- Two places are held against one another. -/
theorem eq_pos (a b c d : Int) (w : World) : (binOp .eql 31 (.agg #[.int .i64 a, .int .i64 b]) (.agg #[.int .i64 c, .int .i64 d])).run Try.prog w = .ok (.bool (decide (a = c) && decide (b = d))) w := by
  have hS : Try.prog.underlying 31 = some (.struct (Try.prog.fieldsOf 31)) := by kernel_rfl
  have hp : Try.prog.stoodInHeld 31 = false := by kernel_rfl
  rw [run_eql_struct, show (10000 : Nat) = 9999 + 1 from rfl, run_equalIn_agg w 9999 31 _ _ hS hp]
  simp only [Program.fieldsOf, Try.underlying31]
  go_simp
  by_cases h1 : a = c <;> by_cases h2 : b = d <;> simp [h1, h2]
theorem neq_pos (a b c d : Int) (W : World) : (binOp .neq 31 (.agg #[.int .i64 a, .int .i64 b]) (.agg #[.int .i64 c, .int .i64 d])).run Try.prog W = .ok (.bool (!(decide (a = c) && decide (b = d)))) W := by
  have hS : Try.prog.underlying 31 = some (.struct (Try.prog.fieldsOf 31)) := by kernel_rfl
  have hp : Try.prog.stoodInHeld 31 = false := by kernel_rfl
  rw [run_neq_struct, show (10000 : Nat) = 9999 + 1 from rfl, run_equalIn_agg W 9999 31 _ _ hS hp]
  simp only [Program.fieldsOf, Try.underlying31]
  go_simp
  by_cases h1 : a = c <;> by_cases h2 : b = d <;> simp [h1, h2]
def PosAt (w : World) (g : Nat) (l c : Int) : Prop := w.heap[g]? = some (.cells #[.int .i64 l, .int .i64 c] 31 (0, 0))
section
variable {w w' : World} {g g' B : Nat} {l c : Int}
theorem PosAt.below (h : PosAt w g l c) (hb : Below B w w') (hg : g < B) : PosAt w' g l c := (hb.block g hg).trans h
theorem PosAt.fr {S : Nat → Prop} (h : PosAt w g l c) (hf : Fr S w w') (hg : ¬ S g) : PosAt w' g l c := (hf.block g (Array.getElem?_eq_some_iff.1 h).1 hg).trans h
theorem PosAt.lt (h : PosAt w g l c) : g < w.heap.size := (Array.getElem?_eq_some_iff.1 h).1
theorem PosAt.c0 (h : PosAt w g l c) : w.cell? ⟨g, 0, none⟩ = some (.int .i64 l) := (cell_of_row w _ 0 _ _ _ h).trans (by simp)
theorem PosAt.c1 (h : PosAt w g l c) : w.cell? ⟨g, 1, none⟩ = some (.int .i64 c) := (cell_of_row w _ 1 _ _ _ h).trans (by simp)
theorem PosAt.z (h : PosAt w g l c) (k : Nat) : w.frozen? ⟨g, k, none⟩ = false := frozen_of_row w _ k _ _ h
theorem PosAt.new (w : World) (l c : Int) : PosAt (w.alloc (.cells #[.int .i64 l, .int .i64 c] 31)) w.heap.size l c := heap_alloc_new w _
theorem PosAt.set (h : PosAt w g l c) (l' c' : Int) : PosAt ((w.setCell ⟨g, 0, none⟩ (.int .i64 l')).setCell ⟨g, 1, none⟩ (.int .i64 c')) g l' c' := by
  have h1 := (heap_setCell_same w g 0 _ _ (.int .i64 l') h)
  exact (heap_setCell_same _ g 1 _ _ (.int .i64 c') h1).trans (by simp)
end
/-- A structure in its variable and a second result. -/
theorem results_cell_tmp {P : Program} {fn : Func} {p q : Tmp} {ty : TypeId} (h : fn.results = #[.cell p ty, .tmp q]) (tmps : Array Value) (w : World) (g : Nat) (t : TypeId) (cs : Array Value) (fr : Nat × Nat) (d : TypeDesc) (v : Value)
    (hp : tmps.getD p undef = .pointer (some ⟨g, 0, none⟩)) (hg : w.heap[g]? = some (.cells cs t fr)) (hq : tmps.getD q undef = v)
    (hu : P.underlying ty = some d) (hd : (match d with | .struct _ | .array _ _ => true | _ => false) = true) (hi : (P.info? ty).map (·.size) = some cs.size) :
    (results fn tmps).run P w = .ok (.tuple #[.agg cs, v]) w := by
  have hp' : tmps[p]?.getD undef = .pointer (some ⟨g, 0, none⟩) := by simpa using hp
  have hq' : tmps[q]?.getD undef = v := by simpa using hq
  simp [results, h, hp', hq', asAddr, run_loadVar_row w g t ty cs fr d hg hu hd hi]
/-- A place and a bool are handed back. -/
theorem ret_ps {fn : Func} {p q : Tmp} {a : Act} {w : World} {g : Nat} {x y : Int} {ok : Bool} {Q : Ending → World → Prop} (hr : fn.results = #[.cell p 31, .tmp q]) (hp : a.tmps.getD p undef = .pointer (some ⟨g, 0, none⟩)) (hq : a.tmps.getD q undef = .bool ok) (hd : a.defers = [])
    (hg : PosAt w g x y) (h : Q (.returned (.tuple #[.agg #[.int .i64 x, .int .i64 y], .bool ok])) w) : bodyPost Try.prog fn Q Exit.ret a w :=
  bodyPost_ret (results_cell_tmp hr _ _ g _ _ _ _ _ hp hg hq Try.underlying31 rfl (by kernel_rfl)) hd h

/-! ### the map -/
theorem law : Maps.Keyed Try.prog 5 := Maps.int_keyed Try.underlying5
theorem zeroP (w : World) : (zeroValue 31).run Try.prog w = .ok (.agg #[.int .i64 0, .int .i64 0]) w := by kernel_rfl
/-- How a place reads. -/
def rdP : Value → Option (DataW Unit × List MemPlace)
  | .agg cs => match cs.toList with | [.int .i64 a, .int .i64 b] => some (.agg [.lit (.int .i64 a), .lit (.int .i64 b)], []) | _ => none
  | _ => none
def dat (p : P2) : DataW Unit := .agg [.lit (.int .i64 p.1), .lit (.int .i64 p.2)]
theorem rdP_mk (a b : Int) : rdP (.agg #[.int .i64 a, .int .i64 b]) = some (dat (a, b), []) := rfl
theorem rdP_inv {v : Value} {z : DataW Unit × List MemPlace} (h : rdP v = some z) : ∃ a b : Int, v = .agg #[.int .i64 a, .int .i64 b] ∧ z = (dat (a, b), []) := by
  unfold rdP at h
  split at h
  · rename_i cs
    split at h
    · rename_i a b e
      cases h
      refine ⟨a, b, ?_, rfl⟩
      have : cs = #[.int .i64 a, .int .i64 b] := by
        apply Array.ext'
        exact e
      rw [this]
    · cases h
  · cases h
theorem dat_inj {p q : P2} (h : dat p = dat q) : p = q := by
  obtain ⟨a, b⟩ := p
  obtain ⟨c, d⟩ := q
  simp only [dat, DataW.agg.injEq, List.cons.injEq, DataW.lit.injEq, Lit.int.injEq, true_and, and_true] at h
  rw [h.1, h.2]
/-- The map's block, told by the list of the marks that are set. -/
def MapW (w : World) (b : Nat) (L : ML) : Prop := ∃ D : DataW Unit, w.ownsMap Try.prog 5 rdP b L.length D ∧ Maps.Tidy D ∧ Maps.size D = L.length ∧
  ∀ c : Nat, c < 256 → Maps.has D (.int .u8 c) = (lk L c).isSome ∧ ∀ p, lk L c = some p → ∀ z, D.atKey (.int .u8 c) z = dat p
theorem key_of {c : Nat} (hc : c < 256) : keyOf Try.prog 5 (.int .u8 c) = some (.int .u8 c) := Maps.keyOf_int_mk Try.underlying5 (WalkArith.wf_u8 (by omega))
theorem tight {w : World} {b n : Nat} {D : DataW Unit} (h : w.ownsMap Try.prog 5 rdP b n D) {m : Nat} (hm : Maps.size D = m) : w.ownsMap Try.prog 5 rdP b m D := by
  obtain ⟨es, clock, hb, F, hs, rfl⟩ := h
  refine ⟨es, clock, hb, F, ?_, rfl⟩
  rw [← hm]
  simp [Maps.size, length_sorted]
theorem MapW.new (w : World) : MapW (w.alloc (.map #[] 0)) w.heap.size [] := ⟨.map [], World.ownsMap_made _ _ _ _, Maps.tidy_empty, rfl, fun c _ => ⟨rfl, fun p h => by cases h⟩⟩
theorem MapW.fr {S : Nat → Prop} {w w' : World} {b : Nat} {L : ML} (h : MapW w b L) (hf : Fr S w w') (hb : ¬ S b) : MapW w' b L := by
  obtain ⟨D, ⟨es, clock, hm, r⟩, h2⟩ := h
  exact ⟨D, ⟨es, clock, (hf.block b (Array.getElem?_eq_some_iff.1 hm).1 hb).trans hm, r⟩, h2⟩
theorem MapW.below {w w' : World} {b : Nat} {L : ML} (h : MapW w b L) (hb : Below w.heap.size w w') : MapW w' b L := h.fr (Fr.ofBelow hb (fun _ => False)) (fun h => h)
theorem MapW.block {w : World} {b : Nat} {L : ML} (h : MapW w b L) : ∃ es clock, w.heap[b]? = some (.map es clock) := by
  obtain ⟨D, ⟨es, clock, hm, _⟩, _⟩ := h
  exact ⟨es, clock, hm⟩
/-- What a look-up gives. -/
def lz (o : Option P2) : P2 := o.getD (0, 0)
theorem turned_fr {w w' : World} {b : Nat} (h : w.mapTurned w' b) : Fr (fun k => k = b) w w' := by
  have hg := h.grown
  exact ⟨hg.os, hg.tape, hg.output, hg.size, fun k hk hs => hg.block k hk (fun e => hs (by cases e; rfl))⟩
end Go.Proofs.Ytfclclnlmhbgiaa.Mk
