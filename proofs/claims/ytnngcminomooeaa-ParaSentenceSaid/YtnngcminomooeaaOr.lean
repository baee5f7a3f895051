/-
  Rows of runs in memory: the document's (two numbers each), the package's (two numbers and a bool).
-/
import Derived.Test.YtnngcminomooeaaOa
set_option linter.unusedVariables false
set_option linter.unusedSimpArgs false
set_option maxRecDepth 100000
namespace Go.Proofs.Ytnngcminomooeaa.Wo
open Go Go.RowKit Go.Proofs.Ytnngcminomooeaa.Vk Go.Proofs.Ytnngcminomooeaa.Str Go.Proofs.Ytnngcminomooeaa.Ln Go.Proofs.Ytnngcminomooeaa.Cl Go.Proofs.Ytnngcminomooeaa.Mv
attribute [local go_sem] Oper.semAt_some

abbrev ER : TypeId := 33
theorem infoR : (Try.prog.info? ER).map (fun i => (i.zero, i.size, i.bytes)) = some (some (.agg #[.int .i64 0, .int .i64 0]), 2, 16) := by kernel_rfl
theorem underR : Try.prog.underlying 25 = some (.slice ER) := by kernel_rfl
/-- The cells of a row. -/
def fl (f : RN → List Value) (l : List RN) : List Value := l.flatMap f
def c2 (x : RN) : List Value := [.int .i64 x.1, .int .i64 x.2]
def c3 (s : ByteArray) (b : Bool) (x : RN) : List Value := [.int .i64 x.1, .int .i64 x.2, .bool (bk s b x)]
section
variable {f : RN → List Value} {z : Nat}
theorem fl_nil : fl f [] = [] := rfl
theorem fl_append (a b : List RN) : fl f (a ++ b) = fl f a ++ fl f b := by simp [fl]
theorem fl_one (x : RN) : fl f [x] = f x := by simp [fl]
theorem fl_cons (x : RN) (l : List RN) : fl f (x :: l) = f x ++ fl f l := rfl
theorem fl_length (hf : ∀ x, (f x).length = z) (l : List RN) : (fl f l).length = l.length * z := by
  induction l with
  | nil => simp [fl]
  | cons x l ih => rw [fl_cons, List.length_append, ih, hf, List.length_cons, Nat.add_mul, Nat.one_mul, Nat.add_comm]
theorem fl_cells (hf : ∀ x, ∀ u ∈ f x, u.oneCell' = true) (l : List RN) : ∀ u ∈ fl f l, u.oneCell' = true := by
  intro u hu
  obtain ⟨x, _, hx⟩ := List.mem_flatMap.1 hu
  exact hf x u hx
theorem fl_get (hf : ∀ x, (f x).length = z) : ∀ (l : List RN) (j i : Nat) (hj : j < l.length) (hi : i < z), (fl f l)[j * z + i]? = (f l[j])[i]?
  | x :: l, 0, i, _, hi => by
    rw [fl_cons, Nat.zero_mul, Nat.zero_add, List.getElem?_append_left (by rw [hf]; exact hi)]; rfl
  | x :: l, j + 1, i, hj, hi => by
    have := fl_get hf l j i (by simpa using hj) hi
    rw [fl_cons, List.getElem?_append_right (by rw [hf, Nat.add_mul]; omega), hf, Nat.add_mul, show j * z + 1 * z + i - z = j * z + i by omega, this]; rfl
end
theorem c2_len (x : RN) : (c2 x).length = 2 := rfl
theorem c3_len (s : ByteArray) (b : Bool) (x : RN) : (c3 s b x).length = 3 := rfl
theorem c2_one (x : RN) : ∀ u ∈ c2 x, u.oneCell' = true := by
  intro u hu
  simp only [c2, List.mem_cons, List.not_mem_nil, or_false] at hu
  rcases hu with rfl | rfl <;> rfl
theorem c3_one (s : ByteArray) (b : Bool) (x : RN) : ∀ u ∈ c3 s b x, u.oneCell' = true := by
  intro u hu
  simp only [c3, List.mem_cons, List.not_mem_nil, or_false] at hu
  rcases hu with rfl | rfl | rfl <;> rfl
/-- A slice that is yielded as runs, the document's. -/
def Rs (w : World) (a : Option Addr) (n c : Nat) (l : List RN) : Prop := SrcV w 2 (.slice a n c) n (fl c2 l)
section
variable {s : ByteArray} {b : Bool} {w w' : World} {a : Option Addr} {n c : Nat} {l : List RN}
theorem Rs.length (h : Rs w a n c l) : l.length = n := by
  have := h.1; rw [fl_length c2_len] at this; omega
theorem Rs.below (h : Rs w a n c l) (hb : Below w.heap.size w w') : Rs w' a n c l := SrcV.below h hb
theorem Rs.le63 (h : Rs w a n c l) : n ≤ 9223372036854775807 := h.2.2.1
theorem Rs.nil (w : World) : Rs w none 0 0 [] := SrcV.nil w 2
theorem Rs.read (h : Rs w a n c l) (j : Nat) (hj : j < l.length) :
    ∃ g o, a = some ⟨g, o, none⟩ ∧ w.cell? ⟨g, o + j * 2, none⟩ = some (.int .i64 l[j].1) ∧ w.cell? ⟨g, o + j * 2 + 1, none⟩ = some (.int .i64 l[j].2) ∧ n ≤ c := by
  have hl := h.length
  obtain ⟨_, _, _, ⟨ao, he, h0⟩ | ⟨g, o, c', he, hc, _, hcell⟩⟩ := h
  · omega
  · injection he with e1 e2 e3
    subst e1 e3
    have g1 : (fl c2 l)[j * 2]? = some (.int .i64 l[j].1) := fl_get c2_len l j 0 hj (by omega)
    have g2 : (fl c2 l)[j * 2 + 1]? = some (.int .i64 l[j].2) := fl_get c2_len l j 1 hj (by omega)
    exact ⟨g, o, rfl, hcell _ _ g1, by have := hcell _ _ g2; rwa [← Nat.add_assoc] at this, hc⟩
theorem Rs.ofOwn {base : Nat} (h : w.ownsRow base ER 2 (.slice a n c) n (fl c2 l)) : Rs w a n c l := SrcV.ofOwn h (fl_cells c2_one l)
end
/-- One run, built as a slice. -/
theorem SrcV.run2 (w : World) (x : RN) : SrcV (w.alloc (.cells #[.int .i64 x.1, .int .i64 x.2] ER)) 2 (.slice (some ⟨w.heap.size, 0, none⟩) 1 1) 1 (c2 x) := by
  refine ⟨rfl, c2_one x, by simp [maxLen], .inr ⟨w.heap.size, 0, 1, rfl, Nat.le_refl _, by simp [maxLen], fun j u hu => ?_⟩⟩
  rw [Nat.zero_add, cell_of_row _ _ j _ _ _ (heap_alloc_new w _)]
  simpa [c2] using hu
/-- A variable that holds a row of one's own. -/
def Got (t E : TypeId) (z : Nat) (f : RN → List Value) (M D : Nat) (l : List RN) (V : World) : Prop :=
  ∃ a cc, V.heap[M]? = some (.cells #[.slice a l.length cc] t (0, 0)) ∧ V.ownsRow D E z (.slice a l.length cc) l.length (fl f l)
section
variable {t E : TypeId} {z M D B : Nat} {f : RN → List Value} {l : List RN} {A A' V V' : World}
theorem Got.grown {row : Option Nat} (h : Got t E z f M D l A) (hM : M < B) (hg : A.grownBy A' row) (hr : ∀ r, row = some r → B ≤ r ∧ ∃ o : Obj, A.heap[r]? = some o ∧ o.isCells = false) : Got t E z f M D l A' := by
  obtain ⟨b, cc, h1, h2⟩ := h
  refine ⟨b, cc, (hg.block _ (Array.getElem?_eq_some_iff.1 h1).1 (fun e => by have := (hr _ e.symm).1; omega)).trans h1, h2.kept hg ?_⟩
  cases hb : (Value.slice b l.length cc).ownBlock with
  | none => exact .inl rfl
  | some g =>
    refine .inr fun e => ?_
    obtain ⟨cs, hcs⟩ := own_row_cells h2 g hb
    obtain ⟨_, o, ho, hoc⟩ := hr g e.symm
    rw [hcs] at ho
    cases ho
    cases hoc
theorem Got.lt (h : Got t E z f M D l V) : M < V.heap.size := by
  obtain ⟨b, cc, h1, _⟩ := h
  exact (Array.getElem?_eq_some_iff.1 h1).1
theorem Got.below (h : Got t E z f M D l V) (hb : Below V.heap.size V V') : Got t E z f M D l V' :=
  h.grown (B := M + 1) (by omega) (grown_below hb) (fun r e => by cases e)
theorem Got.put (h : Got t E z f M D l V) {p : Addr} (v : Value) (hp : p.block ≠ M) (hD : p.block < D) : Got t E z f M D l (V.setCell p v) := by
  obtain ⟨b, cc, h1, h2⟩ := h
  refine ⟨b, cc, (Below.heap_setCell _ _ _ _ (Ne.symm hp)).trans h1, ?_⟩
  exact ownsRow_fr h2 ((Fr.refl (fun k => k = p.block) V).setCell (p := p) (fun _ => rfl) _) (fun i hi e => by have := (h2.lt i hi).1; omega)
end
/-- append's run, at the operation. -/
theorem exec_append {o : Oper} {a : Operand → Value} {s x : Operand} {ts : Array TypeId} {sv xv : Value} {W W' : World} {v : Value} (ho : o.op = .call { callee := .builtin .append, args := #[s, x], argTypes := ts })
    (hs : a s = sv) (hx : a x = xv) (hr : (Builtin.append_ ts o.type #[sv, xv]).run Try.prog W = .ok v W') : (execOp a o).run Try.prog W = .ok (.value v) W' := by
  simp [execOp, ho, resolve, invoke, builtin, hs, hx, hr]
end Go.Proofs.Ytnngcminomooeaa.Wo
