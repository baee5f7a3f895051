/-
  Registers: one in a variable; what its lines are; the map's block, told by the list of the registers that are set; what a look-up and a store make of it.
-/
import Derived.Test.YtgfajagajiofnaaCl
import Derived.Test.YtgfajagajiofnaaQs
import Derived.Test.YtgfajagajiofnaaRl
import Derived.Maps.OwnSet
import Derived.Laws.StructEq
set_option linter.unusedVariables false
set_option linter.unusedSimpArgs false
set_option maxRecDepth 100000
namespace Go.Proofs.Ytgfajagajiofnaa.Rg
open Go Go.RowKit Go.Proofs.Ytgfajagajiofnaa.Vk Go.Proofs.Ytgfajagajiofnaa.Str Go.Proofs.Ytgfajagajiofnaa.Ln Go.Proofs.Ytgfajagajiofnaa.Cl Go.Proofs.Ytgfajagajiofnaa.Rl
attribute [local go_sem] Oper.semAt_some

theorem ret_bool {p q : Bool} (h : p = q) : Ending.returned (.bool p) = Ending.returned (.bool q) := by rw [h]
abbrev TR : TypeId := 33
/-- A slice value; a register as it lies. -/
abbrev Sl := Option Addr × Nat × Nat
def sv (s : Sl) : Value := .slice s.1 s.2.1 s.2.2
abbrev R := Int × Sl
def rv (x : R) : Value := .agg #[.int .i64 x.1, sv x.2]
def RegAt (w : World) (g : Nat) (x : R) : Prop := w.heap[g]? = some (.cells #[.int .i64 x.1, sv x.2] TR (0, 0))
section
variable {w w' : World} {g g' B : Nat} {x : R}
theorem RegAt.below (h : RegAt w g x) (hb : Below B w w') (hg : g < B) : RegAt w' g x := (hb.block g hg).trans h
theorem RegAt.fr {S : Nat → Prop} (h : RegAt w g x) (hf : Fr S w w') (hg : ¬ S g) : RegAt w' g x := (hf.block g (Array.getElem?_eq_some_iff.1 h).1 hg).trans h
theorem RegAt.lt (h : RegAt w g x) : g < w.heap.size := (Array.getElem?_eq_some_iff.1 h).1
theorem RegAt.c0 (h : RegAt w g x) : w.cell? ⟨g, 0, none⟩ = some (.int .i64 x.1) := (cell_of_row w _ 0 _ _ _ h).trans (by simp)
theorem RegAt.c1 (h : RegAt w g x) : w.cell? ⟨g, 1, none⟩ = some (sv x.2) := (cell_of_row w _ 1 _ _ _ h).trans (by simp)
theorem RegAt.z (h : RegAt w g x) (k : Nat) : w.frozen? ⟨g, k, none⟩ = false := frozen_of_row w _ k _ _ h
theorem RegAt.new (w : World) (x : R) : RegAt (w.alloc (.cells #[.int .i64 x.1, sv x.2] TR)) w.heap.size x := heap_alloc_new w _
theorem RegAt.set (h : RegAt w g x) (y : R) : RegAt ((w.setCell ⟨g, 0, none⟩ (.int .i64 y.1)).setCell ⟨g, 1, none⟩ (sv y.2)) g y := by
  have h1 := (heap_setCell_same w g 0 _ _ (.int .i64 y.1) h)
  exact (heap_setCell_same _ g 1 _ _ (sv y.2) h1).trans (by simp)
end
theorem results_cell_tmp {P : Program} {fn : Func} {p q : Tmp} {ty : TypeId} (h : fn.results = #[.cell p ty, .tmp q]) (tmps : Array Value) (w : World) (g : Nat) (t : TypeId) (cs : Array Value) (fr : Nat × Nat) (d : TypeDesc) (v : Value)
    (hp : tmps.getD p undef = .pointer (some ⟨g, 0, none⟩)) (hg : w.heap[g]? = some (.cells cs t fr)) (hq : tmps.getD q undef = v)
    (hu : P.underlying ty = some d) (hd : (match d with | .struct _ | .array _ _ => true | _ => false) = true) (hi : (P.info? ty).map (·.size) = some cs.size) :
    (results fn tmps).run P w = .ok (.tuple #[.agg cs, v]) w := by
  have hp' : tmps[p]?.getD undef = .pointer (some ⟨g, 0, none⟩) := by simpa using hp
  have hq' : tmps[q]?.getD undef = v := by simpa using hq
  simp [results, h, hp', hq', asAddr, run_loadVar_row w g t ty cs fr d hg hu hd hi]
/-- A register and a bool are handed back; a register alone. -/
theorem ret_rs {fn : Func} {p q : Tmp} {a : Act} {w : World} {g : Nat} {x : R} {ok : Bool} {Q : Ending → World → Prop} (hr : fn.results = #[.cell p TR, .tmp q]) (hp : a.tmps.getD p undef = .pointer (some ⟨g, 0, none⟩)) (hq : a.tmps.getD q undef = .bool ok) (hd : a.defers = [])
    (hg : RegAt w g x) (h : Q (.returned (.tuple #[rv x, .bool ok])) w) : bodyPost Try.prog fn Q Exit.ret a w :=
  bodyPost_ret (results_cell_tmp hr _ _ g _ _ _ _ _ hp hg hq Try.underlying33 rfl (by kernel_rfl)) hd h
theorem ret_rg {fn : Func} {p : Tmp} {a : Act} {w : World} {g : Nat} {x : R} {Q : Ending → World → Prop} (hr : fn.results = #[.cell p TR]) (hp : a.tmps.getD p undef = .pointer (some ⟨g, 0, none⟩)) (hd : a.defers = [])
    (hg : RegAt w g x) (h : Q (.returned (rv x)) w) : bodyPost Try.prog fn Q Exit.ret a w :=
  bodyPost_ret (results_cell_row hr _ _ g _ _ _ _ hp hg Try.underlying33 rfl (by kernel_rfl)) hd h

/-! ### what a register's lines are -/
/-- A block that nobody writes: it was there from the start, or is a row of strings. -/
def Ro (w : World) (B k : Nat) : Prop := k < B ∨ ∃ cs fr, w.heap[k]? = some (.cells cs ES fr)
def El (w : World) (B : Nat) (x : R) (g : G) : Prop := x.1 = g.1 ∧ Ss w x.2.1 x.2.2.1 x.2.2.2 g.2 ∧ (0 < x.2.2.1 → ∀ k, blk (sv x.2) = some k → Ro w B k)
theorem Ro.fr {S : Nat → Prop} {w w' : World} {B k : Nat} (h : Ro w B k) (hf : Fr S w w') (hs : ¬ S k) : Ro w' B k := by
  rcases h with h | ⟨cs, fr, h⟩
  · exact .inl h
  · exact .inr ⟨cs, fr, (hf.block k (Array.getElem?_eq_some_iff.1 h).1 hs).trans h⟩
theorem El.fr {S : Nat → Prop} {w w' : World} {B : Nat} {x : R} {g : G} (h : El w B x g) (hf : Fr S w w') (hs : ∀ k, S k → ¬ Ro w B k) : El w' B x g :=
  ⟨h.1, SrcV.fr h.2.1 hf (fun hm k hk hS => hs k hS (h.2.2 hm k hk)), fun hm k hk => (h.2.2 hm k hk).fr hf (fun hS => hs k hS (h.2.2 hm k hk))⟩
theorem El.below {w w' : World} {B : Nat} {x : R} {g : G} (h : El w B x g) (hb : Below w.heap.size w w') : El w' B x g := h.fr (Fr.ofBelow hb (fun _ => False)) (fun k hk => hk.elim)
theorem El.nil (w : World) (B : Nat) : El w B (0, none, 0, 0) (0, []) := ⟨rfl, SrcV.nil w 1, fun h => absurd h (Nat.lt_irrefl _)⟩
theorem El.len {w : World} {B : Nat} {x : R} {g : G} (h : El w B x g) : g.2.length = x.2.2.1 := Ss.length h.2.1
/-- What comes in lies below. -/
theorem El.old {w : World} {B : Nat} {k : Int} {a : Option Addr} {n c : Nat} {ls : List ByteArray} (h : Ss w a n c ls) (hB : w.heap.size ≤ B) : El w B (k, a, n, c) (k, ls) :=
  ⟨rfl, h, fun hm b hb => .inl (Nat.lt_of_lt_of_le (SrcV.blkLt h (show 0 < n * 1 by have : 0 < n := hm; omega) b hb) hB)⟩
theorem El.own {w : World} {B b : Nat} {k : Int} {a : Option Addr} {n c : Nat} {ls : List ByteArray} (h : w.ownsRow b ES 1 (.slice a n c) n (ls.map .string)) : El w B (k, a, n, c) (k, ls) := by
  refine ⟨rfl, SrcV.ofOwn h (one_cells ls), fun hm g hg => ?_⟩
  rcases h.2 with ⟨he, h0⟩ | ⟨g', cap, cur, he, _, hh, _⟩
  · simp only at hm
    omega
  · have e : g' = g := by
      have : blk (.slice a n c) = some g := hg
      rw [he] at this
      simpa [blk] using this
    subst e
    exact .inr ⟨cur, (0, 0), hh⟩
/-- A row that has just been laid. -/
theorem El.lit (w : World) (B : Nat) (k : Int) (ls : List ByteArray) (n : Nat) (hn : ls.length = n) (hm : n ≤ maxLen) : El (w.alloc (.cells (ls.map .string).toArray ES)) B (k, some ⟨w.heap.size, 0, none⟩, n, n) (k, ls) :=
  ⟨rfl, by
    have := SrcV.lit w (ls.map .string).toArray ES n (by simp [hn]) (by simp [Value.oneCell']) hm
    simpa using this, fun _ b hb => by
    have e : w.heap.size = b := by simpa [blk, sv] using hb
    subst e
    exact .inr ⟨_, _, heap_alloc_new w _⟩⟩

/-! ### the map -/
theorem law : Maps.Keyed Try.prog 5 := Maps.int_keyed Try.underlying5
theorem zeroP (w : World) : (zeroValue TR).run Try.prog w = .ok (rv (0, none, 0, 0)) w := by kernel_rfl
/-- How a register reads: as it lies. -/
def rdP : Value → Option (DataW R × List MemPlace)
  | .agg cs => match cs.toList with | [.int .i64 k, .slice a n c] => some (.held (k, a, n, c), []) | _ => none
  | _ => none
theorem rdP_mk (x : R) : rdP (rv x) = some (.held x, []) := rfl
theorem rdP_inv {v : Value} {z : DataW R × List MemPlace} (h : rdP v = some z) : ∃ x : R, v = rv x ∧ z = (.held x, []) := by
  unfold rdP at h
  split at h
  · rename_i cs
    split at h
    · rename_i k a n c e
      cases h
      refine ⟨(k, a, n, c), ?_, rfl⟩
      have : cs = #[.int .i64 k, .slice a n c] := by
        apply Array.ext'
        exact e
      rw [this]
      rfl
    · cases h
  · cases h
/-- The map's block, told by the list of the registers that are set. -/
def MapW (w : World) (b : Nat) (L : ML R) : Prop := ∃ D : DataW R, w.ownsMap Try.prog 5 rdP b L.length D ∧ Maps.Tidy D ∧ Maps.size D = L.length ∧
  ∀ c : Nat, c < 256 → Maps.has D (.int .u8 c) = (lk L c).isSome ∧ ∀ p, lk L c = some p → ∀ z, D.atKey (.int .u8 c) z = .held p
theorem key_of {c : Nat} (hc : c < 256) : keyOf Try.prog 5 (.int .u8 c) = some (.int .u8 c) := Maps.keyOf_int_mk Try.underlying5 (WalkArith.wf_u8 (by omega))
theorem tight {w : World} {b n : Nat} {D : DataW R} (h : w.ownsMap Try.prog 5 rdP b n D) {m : Nat} (hm : Maps.size D = m) : w.ownsMap Try.prog 5 rdP b m D := by
  obtain ⟨es, clock, hb, F, hs, rfl⟩ := h
  refine ⟨es, clock, hb, F, ?_, rfl⟩
  rw [← hm]
  simp [Maps.size, length_sorted]
theorem MapW.new (w : World) : MapW (w.alloc (.map #[] 0)) w.heap.size [] := ⟨.map [], World.ownsMap_made _ _ _ _, Maps.tidy_empty, rfl, fun c _ => ⟨rfl, fun p h => by cases h⟩⟩
theorem MapW.fr {S : Nat → Prop} {w w' : World} {b : Nat} {L : ML R} (h : MapW w b L) (hf : Fr S w w') (hb : ¬ S b) : MapW w' b L := by
  obtain ⟨D, ⟨es, clock, hm, r⟩, h2⟩ := h
  exact ⟨D, ⟨es, clock, (hf.block b (Array.getElem?_eq_some_iff.1 hm).1 hb).trans hm, r⟩, h2⟩
theorem MapW.below {w w' : World} {b : Nat} {L : ML R} (h : MapW w b L) (hb : Below w.heap.size w w') : MapW w' b L := h.fr (Fr.ofBelow hb (fun _ => False)) (fun h => h)
theorem MapW.block {w : World} {b : Nat} {L : ML R} (h : MapW w b L) : ∃ es clock, w.heap[b]? = some (.map es clock) := by
  obtain ⟨D, ⟨es, clock, hm, _⟩, _⟩ := h
  exact ⟨es, clock, hm⟩
/-- What a look-up gives. -/
def lz (o : Option R) : R := o.getD (0, none, 0, 0)
theorem MapW.look_ok {w : World} {b : Nat} {L : ML R} (h : MapW w b L) {c : Nat} (hc : c < 256) :
    (Instr.lookup 56 (.map (some b)) (.int .u8 (c : Int)) true).run Try.prog w = .ok (.tuple #[rv (lz (lk L c)), .bool (lk L c).isSome]) w := by
  obtain ⟨D, ho, ht, hs, hl⟩ := h
  obtain ⟨v, ps, hr, hv⟩ := ho.look_ok law Try.underlying56 (zeroP w) (rdP_mk (0, none, 0, 0)) (key_of hc)
  obtain ⟨h1, h2⟩ := hl c hc
  rw [hr, h1]
  obtain ⟨x, rfl, he⟩ := rdP_inv hv
  have e1 := congrArg Prod.fst he
  simp only at e1
  cases hk : lk L c with
  | none =>
    rw [hk] at h1
    rw [Maps.atKey_of_not_has h1] at e1
    cases e1
    rfl
  | some p =>
    rw [h2 p hk] at e1
    cases e1
    rfl
theorem turned_fr {w w' : World} {b : Nat} (h : w.mapTurned w' b) : Fr (fun k => k = b) w w' := by
  have hg := h.grown
  exact ⟨hg.os, hg.tape, hg.output, hg.size, fun k hk hs => hg.block k hk (fun e => hs (by cases e; rfl))⟩
theorem MapW.put {w : World} {b : Nat} {L L' : ML R} (h : MapW w b L) (hn : L.length < 1000) {c : Nat} (hc : c < 256) (p : R) (hl' : ∀ d, lk L' d = if d = c then some p else lk L d)
    (hs' : L'.length = L.length + if (lk L c).isSome = true then 0 else 1) :
    ∃ w', (Instr.mapUpdate 56 (.map (some b)) (.int .u8 (c : Int)) (rv p)).run Try.prog w = .ok () w' ∧ MapW w' b L' ∧ Fr (fun k => k = b) w w' := by
  obtain ⟨D, ho, ht, hs, hl⟩ := h
  obtain ⟨w', hr, ho', hturn⟩ := ho.store law Try.underlying56 (by unfold maxLen; omega) (key_of hc) (rdP_mk p)
  have hkey := law.key (key_of hc)
  have hsz : Maps.size (D.put (.int .u8 (c : Int)) ((DataW.held p : DataW R))) = L'.length := by
    rw [Maps.size_put ht, (hl c hc).1, hs, hs']
    split <;> rfl
  refine ⟨w', hr, ⟨_, tight ho' hsz, ht.put hkey _, hsz, fun d hd => ?_⟩, turned_fr hturn⟩
  rw [hl' d]
  by_cases e : d = c
  · subst e
    rw [if_pos rfl]
    exact ⟨Maps.has_put_same ht.isMap hkey _, fun q hq z => by cases hq; exact Maps.atKey_put_same ht.isMap hkey _ z⟩
  · rw [if_neg e]
    have hne : (Lit.int .u8 (d : Int)) ≠ Lit.int .u8 (c : Int) := fun h => e (by simp only [Lit.int.injEq, true_and] at h; omega)
    exact ⟨(Maps.has_put_other hne _).trans (hl d hd).1, fun q hq z => (Maps.atKey_put_other hne _ z).trans ((hl d hd).2 q hq z)⟩

/-! ### the package's registers -/
/-- Block m leads to the map's block b, which tells L. -/
def Fls (w : World) (B m b : Nat) (L : ML G) : Prop := w.heap[m]? = some (.cells #[.map (some b)] 58 (0, 0)) ∧ B ≤ b ∧ ∃ RL, MapW w b RL ∧ Tl (El w B) RL L
section
variable {w w' : World} {B m b : Nat} {L : ML G}
theorem Fls.lt (h : Fls w B m b L) : m < w.heap.size := (Array.getElem?_eq_some_iff.1 h.1).1
theorem Fls.map (h : Fls w B m b L) : ∃ es clock, w.heap[b]? = some (.map es clock) := by
  obtain ⟨_, _, RL, h, _⟩ := h
  exact h.block
theorem Fls.blt (h : Fls w B m b L) : b < w.heap.size := by
  obtain ⟨es, clock, hb⟩ := h.map
  exact (Array.getElem?_eq_some_iff.1 hb).1
theorem Fls.ne (h : Fls w B m b L) : m ≠ b := fun e => by
  obtain ⟨es, clock, hb⟩ := h.map
  subst e
  rw [h.1] at hb
  cases hb
theorem Fls.ro (h : Fls w B m b L) : ∀ k, k = b → ¬ Ro w B k := fun k e hr => by
  subst e
  rcases hr with hr | ⟨cs, fr, hr⟩
  · have := h.2.1
    omega
  · obtain ⟨es, clock, hb⟩ := h.map
    rw [hb] at hr
    cases hr
theorem Fls.cell (h : Fls w B m b L) : w.cell? ⟨m, 0, none⟩ = some (.map (some b)) := (cell_of_row w _ 0 _ _ _ h.1).trans (by simp)
theorem Fls.fr {S : Nat → Prop} (h : Fls w B m b L) (hf : Fr S w w') (hm : ¬ S m) (hb : ¬ S b) (hs : ∀ k, S k → ¬ Ro w B k) : Fls w' B m b L := by
  have hlt := h.lt
  obtain ⟨h1, h2, RL, h3, h4⟩ := h
  exact ⟨(hf.block m hlt hm).trans h1, h2, RL, h3.fr hf hb, h4.mono fun x g he => he.fr hf hs⟩
theorem Fls.below (h : Fls w B m b L) (hb : Below w.heap.size w w') : Fls w' B m b L := h.fr (Fr.ofBelow hb (fun _ => False)) (fun h => h) (fun h => h) (fun k hk => hk.elim)
/-- What a look-up of a name gives. -/
def gz (o : Option G) : G := o.getD (0, [])
theorem Fls.look (h : Fls w B m b L) {c : Nat} (hc : c < 256) : ∃ x : R, El w B x (gz (lk L c)) ∧ ∀ W, Below w.heap.size w W → (Instr.lookup 56 (.map (some b)) (.int .u8 (c : Int)) true).run Try.prog W = .ok (.tuple #[rv x, .bool (lk L c).isSome]) W := by
  obtain ⟨h1, h2, RL, h3, h4⟩ := h
  rcases h4.look c with ⟨e1, e2⟩ | ⟨x, g, e1, e2, hp⟩
  · refine ⟨(0, none, 0, 0), by rw [e2]; exact El.nil w B, fun W hW => ?_⟩
    rw [(h3.below hW).look_ok hc, e1, e2]
    rfl
  · refine ⟨x, by rw [e2]; exact hp, fun W hW => ?_⟩
    rw [(h3.below hW).look_ok hc, e1, e2]
    rfl
/-- What a store makes. -/
theorem Fls.put (h : Fls w B m b L) (hok : Ok L) {c : Nat} (hc : c < 256) {x : R} {g : G} (hx : El w B x g) :
    ∃ w', (Instr.mapUpdate 56 (.map (some b)) (.int .u8 (c : Int)) (rv x)).run Try.prog w = .ok () w' ∧ Fls w' B m b (ins L c g) ∧ Fr (fun k => k = b) w w' := by
  have hro := h.ro
  have hne := h.ne
  have hlt := h.lt
  obtain ⟨h1, h2, RL, h3, h4⟩ := h
  have hsr := h4.srt hok.1
  obtain ⟨w', hu, hm, hf⟩ := h3.put (L' := ins RL c x) (by have := length_ok hok; rw [h4.length]; omega) hc x (look_ins RL c x) (length_ins hsr c x)
  exact ⟨w', hu, ⟨(hf.block m hlt hne).trans h1, h2, _, hm, (h4.ins c hx).mono fun x g he => he.fr hf hro⟩, hf⟩
end
end Go.Proofs.Ytgfajagajiofnaa.Rg
