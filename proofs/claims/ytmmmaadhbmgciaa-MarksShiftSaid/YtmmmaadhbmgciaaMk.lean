/-
  Marks: a place in a variable; the map's block, told by the list of the marks that are set; what a look-up, a store and a delete make of it.
-/
import Derived.Test.YtmmmaadhbmgciaaCl
import Derived.Test.YtmmmaadhbmgciaaQp
import Derived.Test.YtmmmaadhbmgciaaMl
import Derived.Maps.OwnSet
import Derived.Laws.StructEq
set_option linter.unusedVariables false
set_option linter.unusedSimpArgs false
set_option maxRecDepth 100000
namespace Go.Proofs.Ytmmmaadhbmgciaa.Mk
open Go Go.RowKit Go.Proofs.Ytmmmaadhbmgciaa.Vk Go.Proofs.Ytmmmaadhbmgciaa.Str Go.Proofs.Ytmmmaadhbmgciaa.Ln Go.Proofs.Ytmmmaadhbmgciaa.Cl Go.Proofs.Ytmmmaadhbmgciaa.Ml
attribute [local go_sem] Oper.semAt_some

theorem ret_bool {p q : Bool} (h : p = q) : Ending.returned (.bool p) = Ending.returned (.bool q) := by rw [h]
/-- Two places are held against one another. -/
theorem eq_pos (a b c d : Int) (w : World) : (binOp .eql 37 (.agg #[.int .i64 a, .int .i64 b]) (.agg #[.int .i64 c, .int .i64 d])).run Try.prog w = .ok (.bool (decide (a = c) && decide (b = d))) w := by
  have hS : Try.prog.underlying 37 = some (.struct (Try.prog.fieldsOf 37)) := by kernel_rfl
  have hp : Try.prog.stoodInHeld 37 = false := by kernel_rfl
  rw [run_eql_struct, show (10000 : Nat) = 9999 + 1 from rfl, run_equalIn_agg w 9999 37 _ _ hS hp]
  simp only [Program.fieldsOf, Try.underlying37]
  go_simp
  by_cases h1 : a = c <;> by_cases h2 : b = d <;> simp [h1, h2]
theorem neq_pos (a b c d : Int) (W : World) : (binOp .neq 37 (.agg #[.int .i64 a, .int .i64 b]) (.agg #[.int .i64 c, .int .i64 d])).run Try.prog W = .ok (.bool (!(decide (a = c) && decide (b = d)))) W := by
  have hS : Try.prog.underlying 37 = some (.struct (Try.prog.fieldsOf 37)) := by kernel_rfl
  have hp : Try.prog.stoodInHeld 37 = false := by kernel_rfl
  rw [run_neq_struct, show (10000 : Nat) = 9999 + 1 from rfl, run_equalIn_agg W 9999 37 _ _ hS hp]
  simp only [Program.fieldsOf, Try.underlying37]
  go_simp
  by_cases h1 : a = c <;> by_cases h2 : b = d <;> simp [h1, h2]
def PosAt (w : World) (g : Nat) (l c : Int) : Prop := w.heap[g]? = some (.cells #[.int .i64 l, .int .i64 c] 37 (0, 0))
section
variable {w w' : World} {g g' B : Nat} {l c : Int}
theorem PosAt.below (h : PosAt w g l c) (hb : Below B w w') (hg : g < B) : PosAt w' g l c := (hb.block g hg).trans h
theorem PosAt.fr {S : Nat → Prop} (h : PosAt w g l c) (hf : Fr S w w') (hg : ¬ S g) : PosAt w' g l c := (hf.block g (Array.getElem?_eq_some_iff.1 h).1 hg).trans h
theorem PosAt.lt (h : PosAt w g l c) : g < w.heap.size := (Array.getElem?_eq_some_iff.1 h).1
theorem PosAt.c0 (h : PosAt w g l c) : w.cell? ⟨g, 0, none⟩ = some (.int .i64 l) := (cell_of_row w _ 0 _ _ _ h).trans (by simp)
theorem PosAt.c1 (h : PosAt w g l c) : w.cell? ⟨g, 1, none⟩ = some (.int .i64 c) := (cell_of_row w _ 1 _ _ _ h).trans (by simp)
theorem PosAt.z (h : PosAt w g l c) (k : Nat) : w.frozen? ⟨g, k, none⟩ = false := frozen_of_row w _ k _ _ h
theorem PosAt.new (w : World) (l c : Int) : PosAt (w.alloc (.cells #[.int .i64 l, .int .i64 c] 37)) w.heap.size l c := heap_alloc_new w _
theorem PosAt.set (h : PosAt w g l c) (l' c' : Int) : PosAt ((w.setCell ⟨g, 0, none⟩ (.int .i64 l')).setCell ⟨g, 1, none⟩ (.int .i64 c')) g l' c' := by
  have h1 := (heap_setCell_same w g 0 _ _ (.int .i64 l') h)
  exact (heap_setCell_same _ g 1 _ _ (.int .i64 c') h1).trans (by simp)
end
/-- A structure in its variable and a second result. -/
theorem results_cell_tmp {P : Program} {fn : Func} {p q : Tmp} {ty : TypeId} (h : fn.results = #[.cell p ty, .tmp q]) (tmps : Array Value) (w : World) (g : Nat) (t : TypeId) (cs : Array Value) (fr : Nat × Nat) (d : TypeDesc) (v : Value)
    (hp : tmps.getD p undef = .pointer (some ⟨g, 0, none⟩)) (hg : w.heap[g]? = some (.cells cs t fr)) (hq : tmps.getD q undef = v)
    (hu : P.underlying ty = some d) (hd : (match d with | .struct _ | .array _ _ => true | _ => false) = true) (hi : (P.info? ty).map (·.size) = some cs.size) :
    (results fn tmps).run P w = .ok (.tuple #[.agg cs, v]) w := by
  have hp' : tmps[p]?.getD undef = .pointer (some ⟨g, 0, none⟩) := by simpa using hp
  have hq' : tmps[q]?.getD undef = v := by simpa using hq
  simp [results, h, hp', hq', asAddr, run_loadVar_row w g t ty cs fr d hg hu hd hi]
/-- A place and a bool are handed back. -/
theorem ret_ps {fn : Func} {p q : Tmp} {a : Act} {w : World} {g : Nat} {x y : Int} {ok : Bool} {Q : Ending → World → Prop} (hr : fn.results = #[.cell p 37, .tmp q]) (hp : a.tmps.getD p undef = .pointer (some ⟨g, 0, none⟩)) (hq : a.tmps.getD q undef = .bool ok) (hd : a.defers = [])
    (hg : PosAt w g x y) (h : Q (.returned (.tuple #[.agg #[.int .i64 x, .int .i64 y], .bool ok])) w) : bodyPost Try.prog fn Q Exit.ret a w :=
  bodyPost_ret (results_cell_tmp hr _ _ g _ _ _ _ _ hp hg hq Try.underlying37 rfl (by kernel_rfl)) hd h

/-! ### the map -/
theorem law : Maps.Keyed Try.prog 5 := Maps.int_keyed Try.underlying5
theorem zeroP (w : World) : (zeroValue 37).run Try.prog w = .ok (.agg #[.int .i64 0, .int .i64 0]) w := by kernel_rfl
/-- How a place reads. -/
def rdP : Value → Option (DataW Unit × List MemPlace)
  | .agg cs => match cs.toList with | [.int .i64 a, .int .i64 b] => some (.agg [.lit (.int .i64 a), .lit (.int .i64 b)], []) | _ => none
  | _ => none
def dat (p : P2) : DataW Unit := .agg [.lit (.int .i64 p.1), .lit (.int .i64 p.2)]
theorem rdP_mk (a b : Int) : rdP (.agg #[.int .i64 a, .int .i64 b]) = some (dat (a, b), []) := rfl
theorem rdP_inv {v : Value} {z : DataW Unit × List MemPlace} (h : rdP v = some z) : ∃ a b : Int, v = .agg #[.int .i64 a, .int .i64 b] ∧ z = (dat (a, b), []) := by
  unfold rdP at h
  split at h
  · rename_i cs
    split at h
    · rename_i a b e
      cases h
      refine ⟨a, b, ?_, rfl⟩
      have : cs = #[.int .i64 a, .int .i64 b] := by
        apply Array.ext'
        exact e
      rw [this]
    · cases h
  · cases h
theorem dat_inj {p q : P2} (h : dat p = dat q) : p = q := by
  obtain ⟨a, b⟩ := p
  obtain ⟨c, d⟩ := q
  simp only [dat, DataW.agg.injEq, List.cons.injEq, DataW.lit.injEq, Lit.int.injEq, true_and, and_true] at h
  rw [h.1, h.2]
/-- The map's block, told by the list of the marks that are set. -/
def MapW (w : World) (b : Nat) (L : ML) : Prop := ∃ D : DataW Unit, w.ownsMap Try.prog 5 rdP b L.length D ∧ Maps.Tidy D ∧ Maps.size D = L.length ∧
  ∀ c : Nat, c < 256 → Maps.has D (.int .u8 c) = (lk L c).isSome ∧ ∀ p, lk L c = some p → ∀ z, D.atKey (.int .u8 c) z = dat p
theorem key_of {c : Nat} (hc : c < 256) : keyOf Try.prog 5 (.int .u8 c) = some (.int .u8 c) := Maps.keyOf_int_mk Try.underlying5 (WalkArith.wf_u8 (by omega))
theorem tight {w : World} {b n : Nat} {D : DataW Unit} (h : w.ownsMap Try.prog 5 rdP b n D) {m : Nat} (hm : Maps.size D = m) : w.ownsMap Try.prog 5 rdP b m D := by
  obtain ⟨es, clock, hb, F, hs, rfl⟩ := h
  refine ⟨es, clock, hb, F, ?_, rfl⟩
  rw [← hm]
  simp [Maps.size, length_sorted]
theorem MapW.new (w : World) : MapW (w.alloc (.map #[] 0)) w.heap.size [] := ⟨.map [], World.ownsMap_made _ _ _ _, Maps.tidy_empty, rfl, fun c _ => ⟨rfl, fun p h => by cases h⟩⟩
theorem MapW.fr {S : Nat → Prop} {w w' : World} {b : Nat} {L : ML} (h : MapW w b L) (hf : Fr S w w') (hb : ¬ S b) : MapW w' b L := by
  obtain ⟨D, ⟨es, clock, hm, r⟩, h2⟩ := h
  exact ⟨D, ⟨es, clock, (hf.block b (Array.getElem?_eq_some_iff.1 hm).1 hb).trans hm, r⟩, h2⟩
theorem MapW.below {w w' : World} {b : Nat} {L : ML} (h : MapW w b L) (hb : Below w.heap.size w w') : MapW w' b L := h.fr (Fr.ofBelow hb (fun _ => False)) (fun h => h)
theorem MapW.block {w : World} {b : Nat} {L : ML} (h : MapW w b L) : ∃ es clock, w.heap[b]? = some (.map es clock) := by
  obtain ⟨D, ⟨es, clock, hm, _⟩, _⟩ := h
  exact ⟨es, clock, hm⟩
/-- What a look-up gives. -/
def lz (o : Option P2) : P2 := o.getD (0, 0)
theorem MapW.look_ok {w : World} {b : Nat} {L : ML} (h : MapW w b L) {c : Nat} (hc : c < 256) :
    (Instr.lookup 51 (.map (some b)) (.int .u8 (c : Int)) true).run Try.prog w = .ok (.tuple #[.agg #[.int .i64 (lz (lk L c)).1, .int .i64 (lz (lk L c)).2], .bool (lk L c).isSome]) w := by
  obtain ⟨D, ho, ht, hs, hl⟩ := h
  obtain ⟨v, ps, hr, hv⟩ := ho.look_ok law Try.underlying51 (zeroP w) (rdP_mk 0 0) (key_of hc)
  obtain ⟨h1, h2⟩ := hl c hc
  rw [hr, h1]
  obtain ⟨x, y, rfl, he⟩ := rdP_inv hv
  have e1 := congrArg Prod.fst he
  simp only at e1
  cases hk : lk L c with
  | none =>
    rw [hk] at h1
    rw [Maps.atKey_of_not_has h1] at e1
    have := dat_inj e1
    cases this
    rfl
  | some p =>
    rw [h2 p hk] at e1
    have := dat_inj e1
    subst this
    rfl
theorem MapW.look {w : World} {b : Nat} {L : ML} (h : MapW w b L) {c : Nat} (hc : c < 256) :
    (Instr.lookup 51 (.map (some b)) (.int .u8 (c : Int)) false).run Try.prog w = .ok (.agg #[.int .i64 (lz (lk L c)).1, .int .i64 (lz (lk L c)).2]) w := by
  obtain ⟨D, ho, ht, hs, hl⟩ := h
  obtain ⟨v, ps, hr, hv⟩ := ho.lookup law Try.underlying51 (zeroP w) (rdP_mk 0 0) (key_of hc)
  obtain ⟨h1, h2⟩ := hl c hc
  rw [hr]
  obtain ⟨x, y, rfl, he⟩ := rdP_inv hv
  have e1 := congrArg Prod.fst he
  simp only at e1
  cases hk : lk L c with
  | none =>
    rw [hk] at h1
    rw [Maps.atKey_of_not_has h1] at e1
    have := dat_inj e1
    cases this
    rfl
  | some p =>
    rw [h2 p hk] at e1
    have := dat_inj e1
    subst this
    rfl
theorem turned_fr {w w' : World} {b : Nat} (h : w.mapTurned w' b) : Fr (fun k => k = b) w w' := by
  have hg := h.grown
  exact ⟨hg.os, hg.tape, hg.output, hg.size, fun k hk hs => hg.block k hk (fun e => hs (by cases e; rfl))⟩
theorem MapW.put {w : World} {b : Nat} {L L' : ML} (h : MapW w b L) (hn : L.length < 1000) {c : Nat} (hc : c < 256) (p : P2) (hl' : ∀ d, lk L' d = if d = c then some p else lk L d)
    (hs' : L'.length = L.length + if (lk L c).isSome = true then 0 else 1) :
    ∃ w', (Instr.mapUpdate 51 (.map (some b)) (.int .u8 (c : Int)) (.agg #[.int .i64 p.1, .int .i64 p.2])).run Try.prog w = .ok () w' ∧ MapW w' b L' ∧ Fr (fun k => k = b) w w' := by
  obtain ⟨D, ho, ht, hs, hl⟩ := h
  obtain ⟨w', hr, ho', hturn⟩ := ho.store law Try.underlying51 (by unfold maxLen; omega) (key_of hc) (rdP_mk p.1 p.2)
  have hkey := law.key (key_of hc)
  have hsz : Maps.size (D.put (.int .u8 (c : Int)) (dat p)) = L'.length := by
    rw [Maps.size_put ht, (hl c hc).1, hs, hs']
    split <;> rfl
  refine ⟨w', hr, ⟨_, tight ho' hsz, ht.put hkey _, hsz, fun d hd => ?_⟩, turned_fr hturn⟩
  rw [hl' d]
  by_cases e : d = c
  · subst e
    rw [if_pos rfl]
    exact ⟨Maps.has_put_same ht.isMap hkey _, fun q hq z => by cases hq; exact Maps.atKey_put_same ht.isMap hkey _ z⟩
  · rw [if_neg e]
    have hne : (Lit.int .u8 (d : Int)) ≠ Lit.int .u8 (c : Int) := fun h => e (by simp only [Lit.int.injEq, true_and] at h; omega)
    exact ⟨(Maps.has_put_other hne _).trans (hl d hd).1, fun q hq z => (Maps.atKey_put_other hne _ z).trans ((hl d hd).2 q hq z)⟩
theorem MapW.del {w : World} {b : Nat} {L L' : ML} (h : MapW w b L) {c : Nat} (hc : c < 256) (hl' : ∀ d, lk L' d = if d = c then none else lk L d)
    (hs' : L'.length + (if (lk L c).isSome = true then 1 else 0) = L.length) (ty : TypeId) :
    ∃ w', (Builtin.delete_ #[51, 5] ty #[.map (some b), .int .u8 (c : Int)]).run Try.prog w = .ok (.tuple #[]) w' ∧ MapW w' b L' ∧ Fr (fun k => k = b) w w' := by
  obtain ⟨D, ho, ht, hs, hl⟩ := h
  obtain ⟨w', hr, ho', hturn⟩ := ho.drop law Try.underlying51 (key_of hc) ty
  have hsz : Maps.size (D.del (.int .u8 (c : Int))) = L'.length := by
    have h1 := Maps.size_del (k := .int .u8 (c : Int)) ht
    rw [(hl c hc).1, hs] at h1
    omega
  refine ⟨w', hr, ⟨_, tight ho' hsz, ht.del _, hsz, fun d hd => ?_⟩, turned_fr hturn⟩
  rw [hl' d]
  by_cases e : d = c
  · subst e
    rw [if_pos rfl]
    exact ⟨Maps.has_del_same, fun q hq => by cases hq⟩
  · rw [if_neg e]
    have hne : (Lit.int .u8 (d : Int)) ≠ Lit.int .u8 (c : Int) := fun h => e (by simp only [Lit.int.injEq, true_and] at h; omega)
    exact ⟨(Maps.has_del_other hne).trans (hl d hd).1, fun q hq z => (Maps.atKey_del_other hne z).trans ((hl d hd).2 q hq z)⟩
end Go.Proofs.Ytmmmaadhbmgciaa.Mk
