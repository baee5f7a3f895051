/-
  Layer 15: variables that hold a range; what a round may change; ranges held against one another.
-/
import Derived.Test.YtnngcminomooeaaOl
import Derived.Test.YtnngcminomooeaaMo
import Derived.Test.YtnngcminomooeaaSo
import Derived.Test.YtnngcminomooeaaQf
import Derived.Test.YtnngcminomooeaaRnd
import Derived.Test.YtnngcminomooeaaSv
import Derived.Deep.AppendSrc
set_option linter.unusedVariables false
set_option linter.unusedSimpArgs false
set_option maxRecDepth 100000
namespace Go.Proofs.Ytnngcminomooeaa.Wo
open Go Go.RowKit Go.Proofs.Ytnngcminomooeaa.Vk Go.Proofs.Ytnngcminomooeaa.Str Go.Proofs.Ytnngcminomooeaa.Ln Go.Proofs.Ytnngcminomooeaa.Cl Go.Proofs.Ytnngcminomooeaa.Mv
attribute [local go_sem] Oper.semAt_some

/-- What a round may change: what is new. -/
abbrev Kn (w : World) (W W' : World) : Prop := Fr (fun k => w.heap.size ≤ k) W W'
theorem Kn.cell {w W V : World} {p : Addr} {v : Value} (hW : Below w.heap.size w W) (hF : Kn w W V) (hv : w.cell? p = some v) : V.cell? p = some v :=
  Fr.cell hF (cell_later hW hv) (fun e => by have : p.block < w.heap.size := World.block_lt_of_cell? w _ hv; have e' : w.heap.size ≤ p.block := e; omega)
theorem Kn.below {w W V : World} (hW : Below w.heap.size w W) (hF : Kn w W V) : Below w.heap.size w V :=
  hW.trans (Fr.below hF hW.size (fun k hk => hk))
theorem grown_below {V V2 : World} (h : Below V.heap.size V V2) : V.grownBy V2 none := ⟨h.os, h.tape, h.output, h.size, fun k hk _ => h.block k hk⟩
theorem knB {w Wi : World} (hB : w.heap.size ≤ Wi.heap.size) : ∀ (V : World) (l : Nat) (o o' : Obj), Wi.heap.size ≤ l → V.heap[l]? = some o → o.isCells = false → o.isWalk = false → Kn w V (V.putObj l o') :=
  fun V l o o' hl ho _ _ => Fr.grown (Fr.refl _ V) (grownBy_putObj' V l o') (fun k e _ => by cases e; show w.heap.size ≤ l; omega)
theorem own_at {α : Type} {B k : Nat} (hk : k < B) (O : Obj) : OwnFrom B (fun (_ : List α) (V : World) => V.heap[k]? = some O) :=
  fun s A B' row hs hg hr => (hg.block _ (Array.getElem?_eq_some_iff.1 hs).1 (fun e => by have := (hr _ e.symm).1; omega)).trans hs
theorem own_kn {α : Type} {w W : World} {B : Nat} (hB : w.heap.size ≤ B) : OwnFrom B (fun (_ : List α) (V : World) => Kn w W V) :=
  fun s A B' row hs hg hr => Fr.grown hs hg (fun k e _ => by have := (hr k e).1; show w.heap.size ≤ k; omega)
theorem own_row_cells {w : World} {base : Nat} {e : TypeId} {size : Nat} {v : Value} {n : Nat} {xs : List Value} (h : w.ownsRow base e size v n xs) (g : Nat) (hg : v.ownBlock = some g) : ∃ cs, w.heap[g]? = some (.cells cs e (0, 0)) := by
  rcases h.2 with ⟨rfl, _⟩ | ⟨g', cap, cur, rfl, _, hh, _⟩
  · cases hg
  · simp only [Value.ownBlock, Option.some.injEq] at hg
    subst hg
    exact ⟨cur, hh⟩
theorem three_rows (w : World) (A B C : Obj) : let W := ((w.alloc A).alloc B).alloc C
    W.heap.size = w.heap.size + 3 ∧ W.heap[w.heap.size]? = some A ∧ W.heap[w.heap.size + 1]? = some B ∧ W.heap[w.heap.size + 2]? = some C ∧ Below w.heap.size w W := by
  intro W
  have h0 : ∀ (x : World) (o : Obj), (x.alloc o).heap = x.heap.push o := fun _ _ => rfl
  refine ⟨by simp [W], ?_, ?_, ?_, ?_⟩
  all_goals try simp only [W, h0, Array.getElem?_push, Array.size_push]
  · rw [if_neg (by omega), if_neg (by omega), if_pos trivial]
  · rw [if_neg (by omega), if_pos trivial]
  · rw [if_pos trivial]
  · exact (((Below.refl _ w).alloc (Nat.le_refl _) A).alloc (by simp) B).alloc (by simp; omega) C

/-- A range. -/
abbrev rgv (k l c m d : Int) : Value := .agg #[.int .i64 k, .int .i64 l, .int .i64 c, .int .i64 m, .int .i64 d]
def RgAt (w : World) (g : Nat) (k l c m d : Int) : Prop := w.heap[g]? = some (.cells #[.int .i64 k, .int .i64 l, .int .i64 c, .int .i64 m, .int .i64 d] 42 (0, 0))
def putR (w : World) (g : Nat) (k l c m d : Int) : World :=
  ((((w.setCell ⟨g, 0, none⟩ (.int .i64 k)).setCell ⟨g, 1, none⟩ (.int .i64 l)).setCell ⟨g, 2, none⟩ (.int .i64 c)).setCell ⟨g, 3, none⟩ (.int .i64 m)).setCell ⟨g, 4, none⟩ (.int .i64 d)
section
variable {w w' : World} {g g' B : Nat} {k l c m d : Int}
theorem RgAt.below (h : RgAt w g k l c m d) (hb : Below B w w') (hg : g < B) : RgAt w' g k l c m d := (hb.block g hg).trans h
theorem RgAt.lt (h : RgAt w g k l c m d) : g < w.heap.size := (Array.getElem?_eq_some_iff.1 h).1
theorem RgAt.c0 (h : RgAt w g k l c m d) : w.cell? ⟨g, 0, none⟩ = some (.int .i64 k) := (cell_of_row w _ 0 _ _ _ h).trans (by simp)
theorem RgAt.c1 (h : RgAt w g k l c m d) : w.cell? ⟨g, 1, none⟩ = some (.int .i64 l) := (cell_of_row w _ 1 _ _ _ h).trans (by simp)
theorem RgAt.c2 (h : RgAt w g k l c m d) : w.cell? ⟨g, 2, none⟩ = some (.int .i64 c) := (cell_of_row w _ 2 _ _ _ h).trans (by simp)
theorem RgAt.c3 (h : RgAt w g k l c m d) : w.cell? ⟨g, 3, none⟩ = some (.int .i64 m) := (cell_of_row w _ 3 _ _ _ h).trans (by simp)
theorem RgAt.c4 (h : RgAt w g k l c m d) : w.cell? ⟨g, 4, none⟩ = some (.int .i64 d) := (cell_of_row w _ 4 _ _ _ h).trans (by simp)
theorem RgAt.z (h : RgAt w g k l c m d) (j : Nat) : w.frozen? ⟨g, j, none⟩ = false := frozen_of_row w _ j _ _ h
theorem RgAt.new (w : World) (k l c m d : Int) : RgAt (w.alloc (.cells #[.int .i64 k, .int .i64 l, .int .i64 c, .int .i64 m, .int .i64 d] 42)) w.heap.size k l c m d := heap_alloc_new w _
theorem putR_below {W : World} (h : Below B W w) (hg : B ≤ g) (k l c m d : Int) : Below B W (putR w g k l c m d) :=
  ((((h.setCell (p := ⟨g, 0, none⟩) hg _).setCell (p := ⟨g, 1, none⟩) hg _).setCell (p := ⟨g, 2, none⟩) hg _).setCell (p := ⟨g, 3, none⟩) hg _).setCell (p := ⟨g, 4, none⟩) hg _
theorem putR_size : (putR w g k l c m d).heap.size = w.heap.size := by unfold putR; simp
theorem putR_other (h : g' ≠ g) : (putR w g k l c m d).heap[g']? = w.heap[g']? :=
  (Below.heap_setCell _ _ _ _ h).trans ((Below.heap_setCell _ _ _ _ h).trans ((Below.heap_setCell _ _ _ _ h).trans ((Below.heap_setCell _ _ _ _ h).trans (Below.heap_setCell _ _ _ _ h))))
theorem RgAt.put (h : RgAt w g k l c m d) (k' l' c' m' d' : Int) : RgAt (putR w g k' l' c' m' d') g k' l' c' m' d' := by
  unfold putR RgAt
  refine (heap_setCell_same _ g 4 _ _ _ (heap_setCell_same _ g 3 _ _ _ (heap_setCell_same _ g 2 _ _ _ (heap_setCell_same _ g 1 _ _ _ (heap_setCell_same w g 0 _ _ _ h))))).trans ?_
  simp
theorem RgAt.otherR {k' l' c' m' d' : Int} (h : RgAt w g k l c m d) (hg : g ≠ g') : RgAt (putR w g' k' l' c' m' d') g k l c m d := (putR_other hg).trans h
theorem _root_.Go.Proofs.Ytnngcminomooeaa.Mv.PosAt.otherR {k' l' c' m' d' : Int} (h : PosAt w g l c) (hg : g ≠ g') : PosAt (putR w g' k' l' c' m' d') g l c := (putR_other hg).trans h
end
/-- A range in its variable, and a bool, are handed back. -/
theorem ret_rb {fn : Func} {p q : Tmp} {a : Act} {w : World} {g : Nat} {k l c m d : Int} {ok : Bool} {Q : Ending → World → Prop} (hr : fn.results = #[.cell p 42, .tmp q]) (hp : a.tmps.getD p undef = .pointer (some ⟨g, 0, none⟩)) (hq : a.tmps.getD q undef = .bool ok) (hd : a.defers = [])
    (hg : RgAt w g k l c m d) (h : Q (.returned (.tuple #[rgv k l c m d, .bool ok])) w) : bodyPost Try.prog fn Q Exit.ret a w :=
  bodyPost_ret (Mv.results_cell_tmp hr _ _ g _ _ _ _ _ hp hg hq Try.underlying42 rfl (by kernel_rfl)) hd h
/-- Two ranges are held against one another. -/
theorem eqin_rng (k l c m d k' l' c' m' d' : Int) (w : World) : (Op.equalIn 10000 42 (rgv k l c m d) (rgv k' l' c' m' d')).run Try.prog w = .ok (decide (k = k' ∧ l = l' ∧ c = c' ∧ m = m' ∧ d = d')) w := by
  have hS : Try.prog.underlying 42 = some (.struct (Try.prog.fieldsOf 42)) := by kernel_rfl
  have hp : Try.prog.stoodInHeld 42 = false := by kernel_rfl
  have hS2 : Try.prog.underlying 36 = some (.struct (Try.prog.fieldsOf 36)) := by kernel_rfl
  have hp2 : Try.prog.stoodInHeld 36 = false := by kernel_rfl
  rw [show (10000 : Nat) = 9999 + 1 from rfl, run_equalIn_agg w 9999 42 _ _ hS hp]
  have hin : ∀ (l c l' c' : Int) (W : World), (Op.equalIn 9999 36 (.agg #[.int .i64 l, .int .i64 c]) (.agg #[.int .i64 l', .int .i64 c'])).run Try.prog W = .ok (decide (l = l') && decide (c = c')) W := fun l c l' c' W => by
    rw [show (9999 : Nat) = 9998 + 1 from rfl, run_equalIn_agg W 9998 36 _ _ hS2 hp2]
    simp only [Program.fieldsOf, Try.underlying36]
    go_simp
    by_cases h1 : l = l' <;> by_cases h2 : c = c' <;> simp [h1, h2]
  have p1 : ∀ (k l c m d : Int) (W : World), (part 36 #[.int .i64 k, .int .i64 l, .int .i64 c, .int .i64 m, .int .i64 d] 1).run Try.prog W = .ok (.agg #[.int .i64 l, .int .i64 c]) W := fun _ _ _ _ _ _ => by kernel_rfl
  have p2 : ∀ (k l c m d : Int) (W : World), (part 36 #[.int .i64 k, .int .i64 l, .int .i64 c, .int .i64 m, .int .i64 d] 3).run Try.prog W = .ok (.agg #[.int .i64 m, .int .i64 d]) W := fun _ _ _ _ _ _ => by kernel_rfl
  have p0 : ∀ (k l c m d : Int) (W : World), (part 3 #[.int .i64 k, .int .i64 l, .int .i64 c, .int .i64 m, .int .i64 d] 0).run Try.prog W = .ok (.int .i64 k) W := fun _ _ _ _ _ _ => by kernel_rfl
  have h0 : ∀ (k k' : Int) (W : World), (Op.equalIn 9999 3 (.int .i64 k) (.int .i64 k')).run Try.prog W = .ok (decide (k = k')) W := fun k k' W => by
    go_simp
    by_cases h1 : k = k' <;> simp [h1]
  simp only [Program.fieldsOf, Try.underlying42, Op.eqFields, Sem.run_bind, Sem.run_ite, p0, p1, p2, hin, h0, Result.andThen_ok, ne_eq, String.reduceEq, not_false_eq_true, if_true]
  by_cases e0 : k = k' <;> by_cases e1 : l = l' <;> by_cases e2 : c = c' <;> by_cases e3 : m = m' <;> by_cases e4 : d = d' <;> simp [e0, e1, e2, e3, e4]
theorem eq_rng (k l c m d k' l' c' m' d' : Int) (w : World) : (binOp .eql 42 (rgv k l c m d) (rgv k' l' c' m' d')).run Try.prog w = .ok (.bool (decide (k = k' ∧ l = l' ∧ c = c' ∧ m = m' ∧ d = d'))) w := by
  rw [run_eql_struct, eqin_rng]; rfl
theorem ne_rng (k l c m d : Int) (w : World) : (binOp .neq 42 (rgv k l c m d) (rgv k l c m d)).run Try.prog w = .ok (.bool false) w := by
  rw [run_neq_struct, eqin_rng, decide_eq_true (by simp)]; rfl
end Go.Proofs.Ytnngcminomooeaa.Wo
