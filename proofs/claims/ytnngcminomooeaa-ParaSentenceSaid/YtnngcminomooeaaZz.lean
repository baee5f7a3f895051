import Derived.Test.YtnngcminomooeaaZl
import Derived.Test.YtnngcminomooeaaQt
import Derived.Test.YtnngcminomooeaaRnd
import Derived.Deep.AppendSrc
/-
  Package words: its helps that need no iterator.
-/
set_option linter.unusedVariables false
set_option linter.unusedSimpArgs false
set_option maxRecDepth 100000
namespace Go.Proofs.Ytnngcminomooeaa.Wd
open Go Go.RowKit Go.Proofs.Ytnngcminomooeaa.Vk Go.Proofs.Ytnngcminomooeaa.Str Go.Proofs.Ytnngcminomooeaa.Ln Go.Proofs.Ytnngcminomooeaa.Cl Go.Proofs.Ytnngcminomooeaa.Mv
attribute [local go_sem] Oper.semAt_some

theorem plc_cl {ls : List ByteArray} {l c : Int} (h : 0 < ls.length) : (decide ((clL ls l : Int) = l) && decide ((clC ls l c true : Int) = c)) = decide (Plc ls l c) := by
  rw [Bool.eq_iff_iff]
  simp only [Bool.and_eq_true, decide_eq_true_eq]
  unfold clC clL Plc top
  rw [if_pos rfl]
  have hl := cl_lt l h
  constructor
  · rintro ⟨h1, h2⟩
    have e : cl ls.length l = l.toNat := by omega
    rw [e] at h2
    generalize (lineAt ls l.toNat).size = z at *
    unfold cl at h2
    omega
  · rintro ⟨h1, h2, h3, h4⟩
    have e : cl ls.length l = l.toNat := by unfold cl; omega
    rw [e]
    generalize (lineAt ls l.toNat).size = z at *
    unfold cl
    omega

end Go.Proofs.Ytnngcminomooeaa.Wd
/-
  Package words: the places at which words begin and end, one by one (starts, ends).
-/
set_option linter.unusedVariables false
set_option linter.unusedSimpArgs false
set_option maxRecDepth 100000
namespace Go.Proofs.Ytnngcminomooeaa.Wd
open Go Go.RowKit Go.Proofs.Ytnngcminomooeaa.Vk Go.Proofs.Ytnngcminomooeaa.Str Go.Proofs.Ytnngcminomooeaa.Ln Go.Proofs.Ytnngcminomooeaa.Cl Go.Proofs.Ytnngcminomooeaa.Mv Go.Shelf
attribute [local go_sem] Oper.semAt_some

def encp (x : P2) : Array Value := #[.agg #[.int .i64 x.1, .int .i64 x.2]]
/-- What a round may change: what is new. -/
abbrev Kn (w : World) (W W' : World) : Prop := Fr (fun k => w.heap.size ≤ k) W W'
theorem Kn.cell {w W V : World} {p : Addr} {v : Value} (hW : Below w.heap.size w W) (hF : Kn w W V) (hv : w.cell? p = some v) : V.cell? p = some v :=
  Fr.cell hF (cell_later hW hv) (fun e => by have : p.block < w.heap.size := World.block_lt_of_cell? w _ hv; have e' : w.heap.size ≤ p.block := e; omega)
theorem Kn.below {w W V : World} (hW : Below w.heap.size w W) (hF : Kn w W V) : Below w.heap.size w V :=
  hW.trans (Fr.below hF hW.size (fun k hk => hk))

end Go.Proofs.Ytnngcminomooeaa.Wd
/-
  Package words: the places after (at or after) a place, one by one; Starts, Ends; any iterator of places told by its list.
-/
set_option linter.unusedVariables false
set_option linter.unusedSimpArgs false
set_option maxRecDepth 100000
namespace Go.Proofs.Ytnngcminomooeaa.Wd
open Go Go.RowKit Go.Proofs.Ytnngcminomooeaa.Vk Go.Proofs.Ytnngcminomooeaa.Str Go.Proofs.Ytnngcminomooeaa.Ln Go.Proofs.Ytnngcminomooeaa.Cl Go.Proofs.Ytnngcminomooeaa.Mv Go.Shelf
attribute [local go_sem] Oper.semAt_some

theorem grown_below {V V2 : World} (h : Below V.heap.size V V2) : V.grownBy V2 none := ⟨h.os, h.tape, h.output, h.size, fun k hk _ => h.block k hk⟩
theorem knB {w Wi : World} (hB : w.heap.size ≤ Wi.heap.size) : ∀ (V : World) (l : Nat) (o o' : Obj), Wi.heap.size ≤ l → V.heap[l]? = some o → o.isCells = false → o.isWalk = false → Kn w V (V.putObj l o') :=
  fun V l o o' hl ho _ _ => Fr.grown (Fr.refl _ V) (grownBy_putObj' V l o') (fun k e _ => by cases e; show w.heap.size ≤ l; omega)
theorem own_at {α : Type} {B k : Nat} (hk : k < B) (O : Obj) : OwnFrom B (fun (_ : List α) (V : World) => V.heap[k]? = some O) :=
  fun s A B' row hs hg hr => (hg.block _ (Array.getElem?_eq_some_iff.1 hs).1 (fun e => by have := (hr _ e.symm).1; omega)).trans hs
theorem own_kn {α : Type} {w W : World} {B : Nat} (hB : w.heap.size ≤ B) : OwnFrom B (fun (_ : List α) (V : World) => Kn w W V) :=
  fun s A B' row hs hg hr => Fr.grown hs hg (fun k e _ => by have := (hr k e).1; show w.heap.size ≤ k; omega)

/-- Those of a list that keep a condition. -/
theorem flt_yes {pr : P2 → Bool} {xs pre rest : List P2} {x : P2} (h : xs = pre ++ x :: rest) (hx : pr x = true) : (∃ r, xs.filter pr = pre.filter pr ++ x :: r) ∧ (pre ++ [x]).filter pr = pre.filter pr ++ [x] := by
  subst h
  refine ⟨⟨rest.filter pr, ?_⟩, ?_⟩
  · rw [List.filter_append, List.filter_cons_of_pos hx]
  · rw [List.filter_append, List.filter_cons_of_pos hx]; rfl
theorem flt_no {pr : P2 → Bool} {pre : List P2} {x : P2} (hx : pr x = false) : (pre ++ [x]).filter pr = pre.filter pr := by
  rw [List.filter_append, List.filter_cons_of_neg (by rw [hx]; simp)]; simp

/-- A function value that tells a list of places. -/
def Tells (w : World) (v : Value) (m : Nat) (xs : List P2) : Prop :=
  ∃ g lb, v = .func (.func g) #[] lb ∧ (∀ args w', (callFunc g args).run Try.prog w' = .ok (.enter g args) w') ∧ Iter Try.prog g lb encp m (Kn w) xs w
theorem yieldAt_mono {F : Fence} {n : Nat} {P : Program} {l : Nat} {args : Array Value} {W : World} {R R' : Ending → World → Prop} (h : YieldAt F n P l args W R) (hR : ∀ e W', R e W' → R' e W') : YieldAt F n P l args W R' := by
  obtain ⟨fn, tmps, assign, body, hy, hRd⟩ := h
  exact ⟨fn, tmps, assign, body, hy, hRd.mono hR⟩
theorem iter_kp {α : Type} {P : Program} {g : Nat} {lb : Array Value} {encs : α → Array Value} {m : Nat} {Kp Kp' : World → World → Prop} {xs : List α} {w : World} (h : Iter P g lb encs m Kp xs w) (hk : ∀ A B, Kp' A B → Kp A B) : Iter P g lb encs m Kp' xs w :=
  fun l J Jx W hW hJ hJx hY h0 => h l J Jx W hW hJ hJx (fun pre x W1 hp hs hj => yieldAt_mono (hY pre x W1 hp hs hj) (fun e W' hh => ⟨hh.1, hh.2.imp (fun q => ⟨q.1, q.2.1, hk _ _ q.2.2⟩) id⟩)) h0
theorem kn_of {w w' A B : World} (hb : w.heap.size ≤ w'.heap.size) (h : Kn w' A B) : Kn w A B := h.mono (fun i _ e => Nat.le_trans hb e)
theorem Tells.later {w w' : World} {v : Value} {m : Nat} {xs : List P2} (h : Tells w v m xs) (hb : Below w.heap.size w w') : Tells w' v m xs := by
  obtain ⟨g, lb, h1, h2, h3⟩ := h
  exact ⟨g, lb, h1, h2, iter_kp (h3.later hb) (fun A B hh => kn_of hb.size hh)⟩

end Go.Proofs.Ytnngcminomooeaa.Wd
/-
  Package words: the n-th of the places that an iterator tells (nth).
-/
set_option linter.unusedVariables false
set_option linter.unusedSimpArgs false
set_option maxRecDepth 100000
namespace Go.Proofs.Ytnngcminomooeaa.Wd
open Go Go.RowKit Go.Proofs.Ytnngcminomooeaa.Vk Go.Proofs.Ytnngcminomooeaa.Str Go.Proofs.Ytnngcminomooeaa.Ln Go.Proofs.Ytnngcminomooeaa.Cl Go.Proofs.Ytnngcminomooeaa.Mv Go.Shelf
attribute [local go_sem] Oper.semAt_some

theorem three_rows (w : World) (A B C : Obj) : let W := ((w.alloc A).alloc B).alloc C
    W.heap.size = w.heap.size + 3 ∧ W.heap[w.heap.size]? = some A ∧ W.heap[w.heap.size + 1]? = some B ∧ W.heap[w.heap.size + 2]? = some C ∧ Below w.heap.size w W := by
  intro W
  have h0 : ∀ (x : World) (o : Obj), (x.alloc o).heap = x.heap.push o := fun _ _ => rfl
  refine ⟨by simp [W], ?_, ?_, ?_, ?_⟩
  all_goals try simp only [W, h0, Array.getElem?_push, Array.size_push]
  · rw [if_neg (by omega), if_neg (by omega), if_pos trivial]
  · rw [if_neg (by omega), if_pos trivial]
  · rw [if_pos trivial]
  · exact (((Below.refl _ w).alloc (Nat.le_refl _) A).alloc (by simp) B).alloc (by simp; omega) C
/-- A place and a bool, each handed back out of its variable. -/
theorem results_pos_bool {fn : Func} {p q : Tmp} (h : fn.results = #[.cell p 36, .cell q 4]) (tmps : Array Value) (w : World) (g g' : Nat) (l c : Int) (ok : Bool)
    (hp : tmps.getD p undef = .pointer (some ⟨g, 0, none⟩)) (hq : tmps.getD q undef = .pointer (some ⟨g', 0, none⟩)) (hg : PosAt w g l c) (hc : w.cell? ⟨g', 0, none⟩ = some (.bool ok)) :
    (results fn tmps).run Try.prog w = .ok (.tuple #[.agg #[.int .i64 l, .int .i64 c], .bool ok]) w := by
  have hp' : tmps[p]?.getD undef = .pointer (some ⟨g, 0, none⟩) := by simpa using hp
  have hq' : tmps[q]?.getD undef = .pointer (some ⟨g', 0, none⟩) := by simpa using hq
  have h0 := hg.c0
  have h1 := hg.c1
  clear hg
  simp only [results, h]
  go_simp
/-- The place's variable written anew. -/
theorem PosAt.set {w : World} {g : Nat} {l c : Int} (h : PosAt w g l c) (l' c' : Int) : PosAt ((w.setCell ⟨g, 0, none⟩ (.int .i64 l')).setCell ⟨g, 1, none⟩ (.int .i64 c')) g l' c' := So.set2 h

def nthU (x : P2 × Bool) : Value := .tuple #[.agg #[.int .i64 x.1.1, .int .i64 x.1.2], .bool x.2]

end Go.Proofs.Ytnngcminomooeaa.Wd
/-
  Slices of places, told by their lists; one place appended.
-/
set_option linter.unusedVariables false
set_option linter.unusedSimpArgs false
set_option maxRecDepth 100000
namespace Go.Proofs.Ytnngcminomooeaa.Vk
open Go Go.RowKit
/-- append(own, x...) of whatever x yields, inside a fence. -/
theorem wpListIn_append_srcv {F : Fence} {n0 : Nat} {P : Program} (w : World) {ops : Array Oper} {rest : List Oper} {o : Oper} {a : Act} {Q : Exit → Act → World → Prop} (hgd : o.guard = none) (s x : Operand) (t : TypeId)
    (ho : o.op = .call { callee := .builtin .append, args := #[s, x], argTypes := #[t, t] })
    (base : Nat) (e : TypeId) (i : TypeInfo) (z : Value) (size bytes : Nat) (ht : P.underlying t = some (.slice e)) (hi : P.info? e = some i) (hz : i.zero = some z)
    (hsize : i.size = size) (hby : i.bytes = bytes) (hzs : z.cells.size = size) (hsz : 0 < size)
    (v : Value) (n : Nat) (xs : List Value) (hs : a.eval s = v) (hown : w.ownsRow base e size v n xs)
    (xv : Value) (m : Nat) (news : List Value) (hx : a.eval x = xv) (hsrc : SrcV w size xv m news)
    (h63 : n + m ≤ maxLen) (hbytes : (n + m) * bytes ≤ 140737488355328) (hbase : base ≤ w.heap.size)
    (h : ∀ b' c' w', w'.ownsRow base e size (.slice b' (n + m) c') (n + m) (xs ++ news) → w.grownBy w' v.ownBlock → NewRow w v (.slice b' (n + m) c') → wpListIn F n0 P ops Q rest (a.put o.dst (.slice b' (n + m) c')) w') : wpListIn F n0 P ops Q (o :: rest) a w := by
  refine wpListIn_plain hgd fun K hK => ?_
  obtain ⟨b', c', w', hr, h2, h3, h4⟩ := run_append_srcv (P := P) w o.type t base e i z size bytes ht hi hz hsize hby hzs hsz v n xs hown xv m news hsrc h63 hbytes hbase
  unfold Oper.wpIn
  refine ⟨?_, ?_⟩
  · simp [Oper.about, ho, resolve, Target.leads, Sem.run_pure]
  · rw [Oper.semAt_plain F _ _ (by rw [ho]; intro c hc'; cases hc')]
    simp [execOp, ho, resolve, invoke, builtin, hs, hx, hr, Result.andThen]
    exact hK _ _ (h b' c' w' h2 h3 h4)
end Go.Proofs.Ytnngcminomooeaa.Vk
namespace Go.Proofs.Ytnngcminomooeaa.Wd
open Go Go.RowKit Go.Proofs.Ytnngcminomooeaa.Vk Go.Proofs.Ytnngcminomooeaa.Str Go.Proofs.Ytnngcminomooeaa.Ln Go.Proofs.Ytnngcminomooeaa.Cl Go.Proofs.Ytnngcminomooeaa.Mv Go.Shelf
attribute [local go_sem] Oper.semAt_some

abbrev EP : TypeId := 36
theorem infoP : (Try.prog.info? EP).map (fun i => (i.zero, i.size, i.bytes)) = some (some (.agg #[.int .i64 0, .int .i64 0]), 2, 16) := by kernel_rfl
theorem underP : Try.prog.underlying 39 = some (.slice EP) := by kernel_rfl
/-- The cells of some places. -/
def flat (l : List P2) : List Value := l.flatMap fun x => [.int .i64 x.1, .int .i64 x.2]
theorem flat_append (a b : List P2) : flat (a ++ b) = flat a ++ flat b := by simp [flat]
theorem flat_one (x : P2) : flat [x] = [.int .i64 x.1, .int .i64 x.2] := rfl
theorem flat_cons (x : P2) (l : List P2) : flat (x :: l) = .int .i64 x.1 :: .int .i64 x.2 :: flat l := rfl
theorem flat_length (l : List P2) : (flat l).length = l.length * 2 := by
  induction l with
  | nil => rfl
  | cons x l ih => rw [flat_cons]; simp [ih]; omega
theorem flat_cells (l : List P2) : ∀ u ∈ flat l, u.oneCell' = true := by
  intro u hu
  obtain ⟨x, _, hx⟩ := List.mem_flatMap.1 hu
  simp only [List.mem_cons, List.not_mem_nil, or_false] at hx
  rcases hx with rfl | rfl <;> rfl
theorem flat_get : ∀ (l : List P2) (j : Nat) (hj : j < l.length), (flat l)[j * 2]? = some (.int .i64 l[j].1) ∧ (flat l)[j * 2 + 1]? = some (.int .i64 l[j].2)
  | x :: l, 0, _ => ⟨rfl, rfl⟩
  | x :: l, j + 1, hj => by
    have := flat_get l j (by simpa using hj)
    rw [flat_cons, show (j + 1) * 2 = j * 2 + 1 + 1 by omega]
    simpa using this
/-- A slice that is yielded as places. -/
def Ps (w : World) (a : Option Addr) (n c : Nat) (l : List P2) : Prop := SrcV w 2 (.slice a n c) n (flat l)
theorem Ps.length {w : World} {a : Option Addr} {n c : Nat} {l : List P2} (h : Ps w a n c l) : l.length = n := by
  have := h.1; rw [flat_length] at this; omega
theorem Ps.below {w w' : World} {a : Option Addr} {n c : Nat} {l : List P2} (h : Ps w a n c l) (hb : Below w.heap.size w w') : Ps w' a n c l := SrcV.below h hb
theorem Ps.read {w : World} {a : Option Addr} {n c : Nat} {l : List P2} (h : Ps w a n c l) (j : Nat) (hj : j < l.length) :
    ∃ b o, a = some ⟨b, o, none⟩ ∧ w.cell? ⟨b, o + j * 2, none⟩ = some (.int .i64 l[j].1) ∧ w.cell? ⟨b, o + j * 2 + 1, none⟩ = some (.int .i64 l[j].2) ∧ n ≤ c := by
  have hl := h.length
  obtain ⟨_, _, _, ⟨ao, he, h0⟩ | ⟨b, o, c', he, hc, _, hcell⟩⟩ := h
  · omega
  · injection he with e1 e2 e3
    subst e1 e3
    obtain ⟨g1, g2⟩ := flat_get l j hj
    exact ⟨b, o, rfl, hcell _ _ g1, by have := hcell _ _ g2; rwa [← Nat.add_assoc] at this, hc⟩
theorem Ps.nil (w : World) : Ps w none 0 0 [] := SrcV.nil w 2
theorem Ps.ofOwn {w : World} {base : Nat} {b : Option Addr} {n c : Nat} {l : List P2} (h : w.ownsRow base EP 2 (.slice b n c) n (flat l)) : Ps w b n c l := SrcV.ofOwn h (flat_cells l)
theorem Ps.le63 {w : World} {a : Option Addr} {n c : Nat} {l : List P2} (h : Ps w a n c l) : n ≤ 9223372036854775807 := h.2.2.1
/-- One place, built as a slice. -/
theorem SrcV.pos (w : World) (x y : Int) : SrcV (w.alloc (.cells #[.int .i64 x, .int .i64 y] EP)) 2 (.slice (some ⟨w.heap.size, 0, none⟩) 1 1) 1 [.int .i64 x, .int .i64 y] := by
  refine ⟨rfl, by simp [Value.oneCell'], by simp [maxLen], .inr ⟨w.heap.size, 0, 1, rfl, Nat.le_refl _, by simp [maxLen], fun j u hu => ?_⟩⟩
  rw [Nat.zero_add, cell_of_row _ _ j _ _ _ (heap_alloc_new w _)]
  simpa using hu
/-- A variable that holds a row of places of one's own. -/
def GotP (M D : Nat) (l : List P2) (V : World) : Prop :=
  ∃ b cc, V.heap[M]? = some (.cells #[.slice b l.length cc] 39 (0, 0)) ∧ V.ownsRow D EP 2 (.slice b l.length cc) l.length (flat l)
theorem own_row_cells {w : World} {base : Nat} {e : TypeId} {size : Nat} {v : Value} {n : Nat} {xs : List Value} (h : w.ownsRow base e size v n xs) (g : Nat) (hg : v.ownBlock = some g) : ∃ cs, w.heap[g]? = some (.cells cs e (0, 0)) := by
  rcases h.2 with ⟨rfl, _⟩ | ⟨g', cap, cur, rfl, _, hh, _⟩
  · cases hg
  · simp only [Value.ownBlock, Option.some.injEq] at hg
    subst hg
    exact ⟨cur, hh⟩
theorem GotP.grown {B M D : Nat} {l : List P2} {A A' : World} {row : Option Nat} (h : GotP M D l A) (hM : M < B) (hg : A.grownBy A' row) (hr : ∀ r, row = some r → B ≤ r ∧ ∃ o : Obj, A.heap[r]? = some o ∧ o.isCells = false) : GotP M D l A' := by
  obtain ⟨b, cc, h1, h2⟩ := h
  refine ⟨b, cc, (hg.block _ (Array.getElem?_eq_some_iff.1 h1).1 (fun e => by have := (hr _ e.symm).1; omega)).trans h1, h2.kept hg ?_⟩
  cases hb : (Value.slice b l.length cc).ownBlock with
  | none => exact .inl rfl
  | some g =>
    refine .inr fun e => ?_
    obtain ⟨cs, hcs⟩ := own_row_cells h2 g hb
    obtain ⟨_, o, ho, hoc⟩ := hr g e.symm
    rw [hcs] at ho
    cases ho
    cases hoc
theorem GotP.lt {M D : Nat} {l : List P2} {V : World} (h : GotP M D l V) : M < V.heap.size := by
  obtain ⟨b, cc, h1, _⟩ := h
  exact (Array.getElem?_eq_some_iff.1 h1).1
theorem GotP.below {M D : Nat} {l : List P2} {V V' : World} (h : GotP M D l V) (hb : Below V.heap.size V V') : GotP M D l V' :=
  h.grown (B := M + 1) (by omega) (grown_below hb) (fun r e => by cases e)
end Go.Proofs.Ytnngcminomooeaa.Wd
/-
  Package words: the n-th of the places ahead of a place, counted backward (nthBefore).
-/
set_option linter.unusedVariables false
set_option linter.unusedSimpArgs false
set_option maxRecDepth 100000
namespace Go.Proofs.Ytnngcminomooeaa.Wd
open Go Go.RowKit Go.Proofs.Ytnngcminomooeaa.Vk Go.Proofs.Ytnngcminomooeaa.Str Go.Proofs.Ytnngcminomooeaa.Ln Go.Proofs.Ytnngcminomooeaa.Cl Go.Proofs.Ytnngcminomooeaa.Mv Go.Shelf
attribute [local go_sem] Oper.semAt_some

theorem rev_at {l : List P2} {k : Nat} (h0 : 1 ≤ k) (h : k ≤ l.length) : nthV l.reverse k = (l[l.length - k]'(by omega), true) := by
  unfold nthV
  rw [List.length_reverse, if_neg (by omega), List.getD_eq_getElem?_getD, List.getElem?_reverse (by omega), show l.length - 1 - (k - 1) = l.length - k by omega, List.getElem?_eq_getElem (by omega)]
  rfl
theorem wrap_id {x : Int} (h0 : -9223372036854775808 ≤ x) (h1 : x ≤ 9223372036854775807) : IntKind.i64.wrap x = x := by rw [IntKind.wrap_i64]; omega
theorem rev_no {l : List P2} {k : Nat} (h : l.length < k) : nthV l.reverse k = ((0, 0), false) := nthV_no (by rw [List.length_reverse]; exact h)

/-- What stands between the rounds. -/
def Bq (w Wi : World) (M D : Nat) (p : P2) (l : List P2) (V : World) : Prop :=
  Kn w Wi V ∧ PosAt V M p.1 p.2 ∧ PosAt V (M + 1) 0 0 ∧ GotP (M + 2) D l V ∧ ∀ q ∈ l, lp q p = true
theorem Bq.grown {w Wi : World} {M D B : Nat} {p : P2} {l : List P2} {A A' : World} {row : Option Nat} (h : Bq w Wi M D p l A) (hM : M + 3 ≤ B) (hB : w.heap.size ≤ B) (hg : A.grownBy A' row) (hr : ∀ r, row = some r → B ≤ r ∧ ∃ o : Obj, A.heap[r]? = some o ∧ o.isCells = false) : Bq w Wi M D p l A' := by
  obtain ⟨h1, h2, h3, h4, h5⟩ := h
  have hk : ∀ k, k < M + 3 → k < A.heap.size → A'.heap[k]? = A.heap[k]? := fun k hk hkA => hg.block k hkA (fun e => by have := (hr _ e.symm).1; omega)
  exact ⟨own_kn (α := P2) hB [] A A' row h1 hg hr, (hk _ (by omega) h2.lt).trans h2, (hk _ (by omega) h3.lt).trans h3, h4.grown (B := B) (by omega) hg hr, h5⟩
theorem Bq.below {w Wi : World} {M D : Nat} {p : P2} {l : List P2} {A A' : World} (h : Bq w Wi M D p l A) (hb : Below A.heap.size A A') : Bq w Wi M D p l A' :=
  ⟨h.1.trans (Fr.ofBelow hb _), h.2.1.below hb h.2.1.lt, h.2.2.1.below hb h.2.2.1.lt, h.2.2.2.1.below hb, h.2.2.2.2⟩

end Go.Proofs.Ytnngcminomooeaa.Wd
/-
  The document's Starts and Ends.
-/
set_option linter.unusedVariables false
set_option linter.unusedSimpArgs false
set_option maxRecDepth 100000
namespace Go.Proofs.Ytnngcminomooeaa.Wd
open Go Go.RowKit Go.Proofs.Ytnngcminomooeaa.Vk Go.Proofs.Ytnngcminomooeaa.Str Go.Proofs.Ytnngcminomooeaa.Ln Go.Proofs.Ytnngcminomooeaa.Cl Go.Proofs.Ytnngcminomooeaa.Mv
attribute [local go_sem] Oper.semAt_some

/-- A row of N places of one's own, made behind w. -/
def Own (w : World) (L : List P2) (N : Nat) (b : Option Addr) (cc : Nat) (W : World) : Prop := L.length = N ∧ W.ownsRow w.heap.size EP 2 (.slice b N cc) N (flat L) ∧ Below w.heap.size w W
theorem Own.nil (w : World) : Own w [] 0 none 0 w := ⟨rfl, World.ownsRow_nil _ _ _ _, Below.refl _ _⟩
theorem Own.nil' {w W : World} (h : Below w.heap.size w W) : Own w [] 0 none 0 W := ⟨rfl, World.ownsRow_nil _ _ _ _, h⟩
theorem Own.built {w W : World} {L : List P2} {N : Nat} {b : Option Addr} {cc : Nat} (h : Own w L N b cc W) (O : Obj) : (W.alloc O).ownsRow w.heap.size EP 2 (.slice b N cc) N (flat L) :=
  ownsRow_fr h.2.1 ((Fr.refl (fun _ => False) W).alloc O) (by simp)
theorem Own.below {w W V : World} {L : List P2} {N : Nat} {b : Option Addr} {cc : Nat} (h : Own w L N b cc W) (hb : Below W.heap.size W V) : Own w L N b cc V :=
  ⟨h.1, ownsRow_fr h.2.1 (Fr.ofBelow hb (fun _ => False)) (by simp), h.2.2.trans (hb.mono h.2.2.size)⟩
theorem Own.app {w W V : World} {L : List P2} {N : Nat} {b ob : Option Addr} {cc oc : Nat} {x : P2} {O : Obj} (h : Own w L N b cc W) (hown : V.ownsRow w.heap.size EP 2 (.slice ob (N + 1) oc) (N + 1) (flat L ++ [.int .i64 x.1, .int .i64 x.2]))
    (hg : (W.alloc O).grownBy V (Value.slice b N cc).ownBlock) : Own w (L ++ [x]) (N + 1) ob oc V := by
  refine ⟨by rw [List.length_append, h.1]; rfl, ?_, ?_⟩
  · rw [flat_append, flat_one]; exact hown
  · have := h.2.2.size
    exact (h.2.2.alloc h.2.2.size O).grown hg (by simp; omega) (fun k e => (h.2.1.lt k e).1)
theorem Own.ps {w W : World} {L : List P2} {N : Nat} {b : Option Addr} {cc : Nat} (h : Own w L N b cc W) : Ps W b N cc L := Ps.ofOwn h.2.1

end Go.Proofs.Ytnngcminomooeaa.Wd
/-
  Layer 8's laws: what an iterator of places tells (heard); Starts and Ends; places held against one another.
-/
set_option linter.unusedVariables false
set_option linter.unusedSimpArgs false
set_option maxRecDepth 100000
namespace Go.Proofs.Ytnngcminomooeaa.Wd
open Go Go.RowKit Go.Proofs.Ytnngcminomooeaa.Vk Go.Proofs.Ytnngcminomooeaa.Str Go.Proofs.Ytnngcminomooeaa.Ln Go.Proofs.Ytnngcminomooeaa.Cl Go.Proofs.Ytnngcminomooeaa.Mv Go.Shelf
attribute [local go_sem] Oper.semAt_some

/-- slices.Clone of strings. -/
theorem clone_any (a : Option Addr) (n c : Nat) (ls : List ByteArray) (w : World) (h : Ss w a n c ls) (hn : n ≤ 1000000) : Calls Try.prog 22 #[.slice a n c] w fun e w' =>
    ∃ b cc, e = .returned (.slice b n cc) ∧ Ss w' b n cc ls ∧ Below w.heap.size w w' := by
  obtain ⟨i0, hi0, hz0, hz1, hz2⟩ := info_parts infoS
  have hlen := h.length
  cases a with
  | none =>
    obtain ⟨rfl, rfl⟩ : n = 0 ∧ c = 0 := by
      obtain ⟨_, _, _, ⟨ao, he, h0⟩ | ⟨b, o, c', he, _⟩⟩ := h
      · injection he with _ e2 e3; exact ⟨e2, e3⟩
      · cases he
    have HH := Lib.hid h
    have hcmp : ∀ W : World, (binOp .eql 22 (.slice none 0 0) (.slice none 0 0)).run Try.prog W = .ok (.bool true) W := fun W => by kernel_rfl
    clear h
    go_enter Try.func22, Try.ntmps22
    go_wp2
    go_ret
    exact ⟨none, 0, rfl, HH.out, Below.refl _ _⟩
  | some ad =>
    have HH := Lib.hid h
    clear h
    obtain ⟨X, hX⟩ : ∃ X, X = w.alloc (.cells #[] ES) := ⟨_, rfl⟩
    have hbX : Below w.heap.size w X := by rw [hX]; exact (Below.refl _ w).alloc (Nat.le_refl _) _
    have hown : X.ownsRow w.heap.size ES 1 (.slice (some ⟨w.heap.size, 0, none⟩) 0 0) 0 [] := by
      rw [hX]
      exact ⟨rfl, .inr ⟨w.heap.size, 0, #[], rfl, Nat.le_refl _, heap_alloc_new w _, Nat.le_refl _, by simp [maxLen], rfl, rfl⟩⟩
    have HO := Lib.hid (And.intro hX (And.intro hbX hown))
    have hsrc := Lib.hid (SrcV.below HH.out hbX)
    have hXs : w.heap.size ≤ X.heap.size := hbX.size
    have hcmp : ∀ W : World, (binOp .eql 22 (.slice (some ad) n c) (.slice none 0 0)).run Try.prog W = .ok (.bool false) W := fun W => by kernel_rfl
    clear hX hbX hown
    go_enter Try.func22, Try.ntmps22
    go_wp2_with (at_builtin; rw [← HO.out.1]; go_must (refine append_srcv _ rfl _ _ 22 rfl w.heap.size ES i0 (.string ⟨#[]⟩) 1 16 underS hi0 hz0 hz1 hz2 rfl (by decide) _ 0 [] rfl HO.out.2.2 _ n (ls.map .string) rfl hsrc.out (by simp only [maxLen]; omega) (by omega) hXs ?_); intro ob oc w2 hown hg hnr; have HO2 := Lib.hid (And.intro hown hg); clear hown hg hnr)
    go_ret
    obtain ⟨hown, hg⟩ := HO2.out
    simp only [Nat.zero_add, List.nil_append] at hown ⊢
    refine ⟨ob, oc, rfl, SrcV.ofOwn hown (one_cells _), ?_⟩
    exact HO.out.2.1.grown hg HO.out.2.1.size (fun k e => by simp [Value.ownBlock, Act.eval] at e; omega)

theorem ne_pos (a b : Int) (W : World) : (binOp .neq 36 (.agg #[.int .i64 a, .int .i64 b]) (.agg #[.int .i64 a, .int .i64 b])).run Try.prog W = .ok (.bool false) W := by
  have hS : Try.prog.underlying 36 = some (.struct (Try.prog.fieldsOf 36)) := by kernel_rfl
  have hp : Try.prog.stoodInHeld 36 = false := by kernel_rfl
  rw [run_neq_struct, show (10000 : Nat) = 9999 + 1 from rfl, run_equalIn_agg W 9999 36 _ _ hS hp]
  simp only [Program.fieldsOf, Try.underlying36]
  go_simp
/-- What stands between the rounds. -/
def Bh (w Wi : World) (M D K : Nat) (l : List P2) (V : World) : Prop :=
  Kn w Wi V ∧ V.heap[M]? = some (.cells #[.int .i64 K] 3 (0, 0)) ∧ GotP (M + 1) D l V
theorem Bh.grown {w Wi : World} {M D B K : Nat} {l : List P2} {A A' : World} {row : Option Nat} (h : Bh w Wi M D K l A) (hM : M + 2 ≤ B) (hB : w.heap.size ≤ B) (hg : A.grownBy A' row) (hr : ∀ r, row = some r → B ≤ r ∧ ∃ o : Obj, A.heap[r]? = some o ∧ o.isCells = false) : Bh w Wi M D K l A' := by
  obtain ⟨h1, h2, h4⟩ := h
  exact ⟨own_kn (α := P2) hB [] A A' row h1 hg hr, (hg.block M (Array.getElem?_eq_some_iff.1 h2).1 (fun e => by have := (hr _ e.symm).1; omega)).trans h2, h4.grown (B := B) (by omega) hg hr⟩
/-- .. and there is room. -/
def Br (w Wi : World) (M D K : Nat) (l : List P2) (V : World) : Prop := Kn w Wi V ∧ V.heap[M]? = some (.cells #[.int .i64 K] 3 (0, 0)) ∧ GotP (M + 1) D l V ∧ l.length < K
theorem Br.below {w Wi : World} {M D K : Nat} {l : List P2} {A A' : World} (h : Br w Wi M D K l A) (hb : Below A.heap.size A A') : Br w Wi M D K l A' :=
  ⟨h.1.trans (Fr.ofBelow hb _), (hb.block M (Array.getElem?_eq_some_iff.1 h.2.1).1).trans h.2.1, h.2.2.1.below hb, h.2.2.2⟩

end Go.Proofs.Ytnngcminomooeaa.Wd
