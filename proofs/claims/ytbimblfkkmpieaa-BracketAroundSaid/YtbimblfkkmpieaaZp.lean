/-
  Slices of places, told by their lists; one place appended.
-/
import Derived.Test.YtbimblfkkmpieaaZn
set_option linter.unusedVariables false
set_option linter.unusedSimpArgs false
set_option maxRecDepth 100000
namespace Go.Proofs.Ytbimblfkkmpieaa.Vk
open Go Go.RowKit
/-- append(own, x...) of whatever x yields, inside a fence. -/
theorem wpListIn_append_srcv {F : Fence} {n0 : Nat} {P : Program} (w : World) {ops : Array Oper} {rest : List Oper} {o : Oper} {a : Act} {Q : Exit → Act → World → Prop} (hgd : o.guard = none) (s x : Operand) (t : TypeId)
    (ho : o.op = .call { callee := .builtin .append, args := #[s, x], argTypes := #[t, t] })
    (base : Nat) (e : TypeId) (i : TypeInfo) (z : Value) (size bytes : Nat) (ht : P.underlying t = some (.slice e)) (hi : P.info? e = some i) (hz : i.zero = some z)
    (hsize : i.size = size) (hby : i.bytes = bytes) (hzs : z.cells.size = size) (hsz : 0 < size)
    (v : Value) (n : Nat) (xs : List Value) (hs : a.eval s = v) (hown : w.ownsRow base e size v n xs)
    (xv : Value) (m : Nat) (news : List Value) (hx : a.eval x = xv) (hsrc : SrcV w size xv m news)
    (h63 : n + m ≤ maxLen) (hbytes : (n + m) * bytes ≤ 140737488355328) (hbase : base ≤ w.heap.size)
    (h : ∀ b' c' w', w'.ownsRow base e size (.slice b' (n + m) c') (n + m) (xs ++ news) → w.grownBy w' v.ownBlock → NewRow w v (.slice b' (n + m) c') → wpListIn F n0 P ops Q rest (a.put o.dst (.slice b' (n + m) c')) w') : wpListIn F n0 P ops Q (o :: rest) a w := by
  refine wpListIn_plain hgd fun K hK => ?_
  obtain ⟨b', c', w', hr, h2, h3, h4⟩ := run_append_srcv (P := P) w o.type t base e i z size bytes ht hi hz hsize hby hzs hsz v n xs hown xv m news hsrc h63 hbytes hbase
  unfold Oper.wpIn
  refine ⟨?_, ?_⟩
  · simp [Oper.about, ho, resolve, Target.leads, Sem.run_pure]
  · rw [Oper.semAt_plain F _ _ (by rw [ho]; intro c hc'; cases hc')]
    simp [execOp, ho, resolve, invoke, builtin, hs, hx, hr, Result.andThen]
    exact hK _ _ (h b' c' w' h2 h3 h4)
end Go.Proofs.Ytbimblfkkmpieaa.Vk
namespace Go.Proofs.Ytbimblfkkmpieaa.Wd
open Go Go.RowKit Go.Proofs.Ytbimblfkkmpieaa.Vk Go.Proofs.Ytbimblfkkmpieaa.Str Go.Proofs.Ytbimblfkkmpieaa.Ln Go.Proofs.Ytbimblfkkmpieaa.Cl Go.Proofs.Ytbimblfkkmpieaa.Mv Go.Shelf
attribute [local go_sem] Oper.semAt_some

abbrev EP : TypeId := 24
theorem infoP : (Try.prog.info? EP).map (fun i => (i.zero, i.size, i.bytes)) = some (some (.agg #[.int .i64 0, .int .i64 0]), 2, 16) := by kernel_rfl
theorem underP : Try.prog.underlying 29 = some (.slice EP) := by kernel_rfl
/-- The cells of some places. -/
def flat (l : List P2) : List Value := l.flatMap fun x => [.int .i64 x.1, .int .i64 x.2]
theorem flat_append (a b : List P2) : flat (a ++ b) = flat a ++ flat b := by simp [flat]
theorem flat_one (x : P2) : flat [x] = [.int .i64 x.1, .int .i64 x.2] := rfl
theorem flat_cons (x : P2) (l : List P2) : flat (x :: l) = .int .i64 x.1 :: .int .i64 x.2 :: flat l := rfl
theorem flat_length (l : List P2) : (flat l).length = l.length * 2 := by
  induction l with
  | nil => rfl
  | cons x l ih => rw [flat_cons]; simp [ih]; omega
theorem flat_cells (l : List P2) : ∀ u ∈ flat l, u.oneCell' = true := by
  intro u hu
  obtain ⟨x, _, hx⟩ := List.mem_flatMap.1 hu
  simp only [List.mem_cons, List.not_mem_nil, or_false] at hx
  rcases hx with rfl | rfl <;> rfl
theorem flat_get : ∀ (l : List P2) (j : Nat) (hj : j < l.length), (flat l)[j * 2]? = some (.int .i64 l[j].1) ∧ (flat l)[j * 2 + 1]? = some (.int .i64 l[j].2)
  | x :: l, 0, _ => ⟨rfl, rfl⟩
  | x :: l, j + 1, hj => by
    have := flat_get l j (by simpa using hj)
    rw [flat_cons, show (j + 1) * 2 = j * 2 + 1 + 1 by omega]
    simpa using this
/-- A slice that is yielded as places. -/
def Ps (w : World) (a : Option Addr) (n c : Nat) (l : List P2) : Prop := SrcV w 2 (.slice a n c) n (flat l)
theorem Ps.length {w : World} {a : Option Addr} {n c : Nat} {l : List P2} (h : Ps w a n c l) : l.length = n := by
  have := h.1; rw [flat_length] at this; omega
theorem Ps.below {w w' : World} {a : Option Addr} {n c : Nat} {l : List P2} (h : Ps w a n c l) (hb : Below w.heap.size w w') : Ps w' a n c l := SrcV.below h hb
theorem Ps.read {w : World} {a : Option Addr} {n c : Nat} {l : List P2} (h : Ps w a n c l) (j : Nat) (hj : j < l.length) :
    ∃ b o, a = some ⟨b, o, none⟩ ∧ w.cell? ⟨b, o + j * 2, none⟩ = some (.int .i64 l[j].1) ∧ w.cell? ⟨b, o + j * 2 + 1, none⟩ = some (.int .i64 l[j].2) ∧ n ≤ c := by
  have hl := h.length
  obtain ⟨_, _, _, ⟨ao, he, h0⟩ | ⟨b, o, c', he, hc, _, hcell⟩⟩ := h
  · omega
  · injection he with e1 e2 e3
    subst e1 e3
    obtain ⟨g1, g2⟩ := flat_get l j hj
    exact ⟨b, o, rfl, hcell _ _ g1, by have := hcell _ _ g2; rwa [← Nat.add_assoc] at this, hc⟩
theorem Ps.nil (w : World) : Ps w none 0 0 [] := SrcV.nil w 2
theorem Ps.ofOwn {w : World} {base : Nat} {b : Option Addr} {n c : Nat} {l : List P2} (h : w.ownsRow base EP 2 (.slice b n c) n (flat l)) : Ps w b n c l := SrcV.ofOwn h (flat_cells l)
theorem Ps.le63 {w : World} {a : Option Addr} {n c : Nat} {l : List P2} (h : Ps w a n c l) : n ≤ 9223372036854775807 := h.2.2.1
/-- One place, built as a slice. -/
theorem SrcV.pos (w : World) (x y : Int) : SrcV (w.alloc (.cells #[.int .i64 x, .int .i64 y] EP)) 2 (.slice (some ⟨w.heap.size, 0, none⟩) 1 1) 1 [.int .i64 x, .int .i64 y] := by
  refine ⟨rfl, by simp [Value.oneCell'], by simp [maxLen], .inr ⟨w.heap.size, 0, 1, rfl, Nat.le_refl _, by simp [maxLen], fun j u hu => ?_⟩⟩
  rw [Nat.zero_add, cell_of_row _ _ j _ _ _ (heap_alloc_new w _)]
  simpa using hu
/-- A variable that holds a row of places of one's own. -/
def GotP (M D : Nat) (l : List P2) (V : World) : Prop :=
  ∃ b cc, V.heap[M]? = some (.cells #[.slice b l.length cc] 29 (0, 0)) ∧ V.ownsRow D EP 2 (.slice b l.length cc) l.length (flat l)
theorem own_row_cells {w : World} {base : Nat} {e : TypeId} {size : Nat} {v : Value} {n : Nat} {xs : List Value} (h : w.ownsRow base e size v n xs) (g : Nat) (hg : v.ownBlock = some g) : ∃ cs, w.heap[g]? = some (.cells cs e (0, 0)) := by
  rcases h.2 with ⟨rfl, _⟩ | ⟨g', cap, cur, rfl, _, hh, _⟩
  · cases hg
  · simp only [Value.ownBlock, Option.some.injEq] at hg
    subst hg
    exact ⟨cur, hh⟩
theorem GotP.grown {B M D : Nat} {l : List P2} {A A' : World} {row : Option Nat} (h : GotP M D l A) (hM : M < B) (hg : A.grownBy A' row) (hr : ∀ r, row = some r → B ≤ r ∧ ∃ o : Obj, A.heap[r]? = some o ∧ o.isCells = false) : GotP M D l A' := by
  obtain ⟨b, cc, h1, h2⟩ := h
  refine ⟨b, cc, (hg.block _ (Array.getElem?_eq_some_iff.1 h1).1 (fun e => by have := (hr _ e.symm).1; omega)).trans h1, h2.kept hg ?_⟩
  cases hb : (Value.slice b l.length cc).ownBlock with
  | none => exact .inl rfl
  | some g =>
    refine .inr fun e => ?_
    obtain ⟨cs, hcs⟩ := own_row_cells h2 g hb
    obtain ⟨_, o, ho, hoc⟩ := hr g e.symm
    rw [hcs] at ho
    cases ho
    cases hoc
theorem GotP.lt {M D : Nat} {l : List P2} {V : World} (h : GotP M D l V) : M < V.heap.size := by
  obtain ⟨b, cc, h1, _⟩ := h
  exact (Array.getElem?_eq_some_iff.1 h1).1
theorem GotP.below {M D : Nat} {l : List P2} {V V' : World} (h : GotP M D l V) (hb : Below V.heap.size V V') : GotP M D l V' :=
  h.grown (B := M + 1) (by omega) (grown_below hb) (fun r e => by cases e)
end Go.Proofs.Ytbimblfkkmpieaa.Wd
