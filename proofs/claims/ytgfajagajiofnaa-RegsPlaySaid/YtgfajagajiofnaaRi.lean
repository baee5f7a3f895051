/-
  The document's registers: what they are; Get; a row cut at its capacity and appended to.
-/
import Derived.Test.YtgfajagajiofnaaRh
import Derived.Test.YtgfajagajiofnaaRj
set_option linter.unusedVariables false
set_option linter.unusedSimpArgs false
set_option maxRecDepth 100000
namespace Go.Proofs.Ytgfajagajiofnaa.Rg
open Go Go.RowKit Go.Proofs.Ytgfajagajiofnaa.Vk Go.Proofs.Ytgfajagajiofnaa.Str Go.Proofs.Ytgfajagajiofnaa.Ln Go.Proofs.Ytgfajagajiofnaa.Cl Go.Proofs.Ytgfajagajiofnaa.Rl
attribute [local go_sem] Oper.semAt_some

abbrev RT : TypeId := 30
theorem infoP : (Try.prog.info? TR).map (fun i => (i.zero, i.size, i.bytes)) = some (some (.agg #[.int .i64 0, .slice none 0 0]), 2, 32) := by kernel_rfl
theorem underP : Try.prog.underlying 28 = some (.slice TR) := by kernel_rfl
/-- The cells of some places. -/
def flat (l : List R) : List Value := l.flatMap fun x => [.int .i64 x.1, sv x.2]
theorem flat_append (a b : List R) : flat (a ++ b) = flat a ++ flat b := by simp [flat]
theorem flat_one (x : R) : flat [x] = [.int .i64 x.1, sv x.2] := rfl
theorem flat_cons (x : R) (l : List R) : flat (x :: l) = .int .i64 x.1 :: sv x.2 :: flat l := rfl
theorem flat_length (l : List R) : (flat l).length = l.length * 2 := by
  induction l with
  | nil => rfl
  | cons x l ih => rw [flat_cons]; simp [ih]; omega
theorem flat_cells (l : List R) : ∀ u ∈ flat l, u.oneCell' = true := by
  intro u hu
  obtain ⟨x, _, hx⟩ := List.mem_flatMap.1 hu
  simp only [List.mem_cons, List.not_mem_nil, or_false] at hx
  rcases hx with rfl | rfl <;> rfl
theorem flat_get : ∀ (l : List R) (j : Nat) (hj : j < l.length), (flat l)[j * 2]? = some (.int .i64 l[j].1) ∧ (flat l)[j * 2 + 1]? = some (sv l[j].2)
  | x :: l, 0, _ => ⟨rfl, rfl⟩
  | x :: l, j + 1, hj => by
    have := flat_get l j (by simpa using hj)
    rw [flat_cons, show (j + 1) * 2 = j * 2 + 1 + 1 by omega]
    simpa using this
theorem flat_take (l : List R) (i : Nat) (hi : i ≤ l.length) : (flat l).take (i * 2) = flat (l.take i) := by
  conv => lhs; rw [← List.take_append_drop i l, flat_append]
  exact List.take_left' (by rw [flat_length, List.length_take]; omega)
theorem flat_drop (l : List R) (i : Nat) (hi : i ≤ l.length) : (flat l).drop (i * 2) = flat (l.drop i) := by
  conv => lhs; rw [← List.take_append_drop i l, flat_append]
  exact List.drop_left' (by rw [flat_length, List.length_take]; omega)
theorem SrcV.reg (w : World) (x : R) : SrcV (w.alloc (.cells #[.int .i64 x.1, sv x.2] TR)) 2 (.slice (some ⟨w.heap.size, 0, none⟩) 1 1) 1 [.int .i64 x.1, sv x.2] := by
  refine ⟨rfl, by simp [Value.oneCell', sv], by simp [maxLen], .inr ⟨w.heap.size, 0, 1, rfl, Nat.le_refl _, by simp [maxLen], fun j u hu => ?_⟩⟩
  rw [Nat.zero_add, cell_of_row _ _ j _ _ _ (heap_alloc_new w _)]
  simpa using hu
theorem own_row_cells {w : World} {base : Nat} {e : TypeId} {size : Nat} {v : Value} {n : Nat} {xs : List Value} (h : w.ownsRow base e size v n xs) (g : Nat) (hg : v.ownBlock = some g) : ∃ cs, w.heap[g]? = some (.cells cs e (0, 0)) := by
  rcases h.2 with ⟨rfl, _⟩ | ⟨g', cap, cur, rfl, _, hh, _⟩
  · cases hg
  · simp only [Value.ownBlock, Option.some.injEq] at hg
    subst hg
    exact ⟨cur, hh⟩

/-- The places, in the order of their names. -/
def plc (L : ML R) : List R := L.map (·.2)
theorem length_plc (L : ML R) : (plc L).length = L.length := by simp [plc]
/-- The document's marks: block r leads to a row of names and a row of places, all from B on. -/
def Rfs (w : World) (B r : Nat) (L : ML R) : Prop := ∃ a c a' c', w.heap[r]? = some (.cells #[.slice a L.length c, .slice a' L.length c'] RT (0, 0)) ∧ B ≤ r ∧
  w.ownsRow B TU 1 (.slice a L.length c) L.length (nbs (nms L)) ∧ w.ownsRow B TR 2 (.slice a' L.length c') L.length (flat (plc L))
/-- Its blocks. -/
def RBlk (w : World) (r k : Nat) : Prop := k = r ∨ ∃ x y t, w.heap[r]? = some (.cells #[x, y] t (0, 0)) ∧ (x.ownBlock = some k ∨ y.ownBlock = some k)
theorem Rfs.lt {w : World} {B r : Nat} {L : ML R} (h : Rfs w B r L) : r < w.heap.size := by
  obtain ⟨a, c, a', c', h1, _⟩ := h
  exact (Array.getElem?_eq_some_iff.1 h1).1
theorem Rfs.blk {w : World} {B r k : Nat} {L : ML R} (h : Rfs w B r L) (hk : RBlk w r k) : B ≤ k ∧ k < w.heap.size ∧ ∃ cs t, w.heap[k]? = some (.cells cs t (0, 0)) ∧ (t = RT ∨ t = TU ∨ t = TR) := by
  have hlt := h.lt
  obtain ⟨a, c, a', c', h1, h2, h3, h4⟩ := h
  rcases hk with rfl | ⟨x, y, t, e, hk⟩
  · exact ⟨h2, hlt, _, _, h1, .inl rfl⟩
  · rw [h1] at e
    simp only [Option.some.injEq, Obj.cells.injEq, Array.mk.injEq, List.cons.injEq, and_true] at e
    obtain ⟨⟨rfl, rfl⟩, rfl⟩ := e
    rcases hk with hk | hk
    · obtain ⟨cs, hcs⟩ := own_row_cells h3 k hk
      exact ⟨(h3.lt k hk).1, (h3.lt k hk).2, cs, _, hcs, .inr (.inl rfl)⟩
    · obtain ⟨cs, hcs⟩ := own_row_cells h4 k hk
      exact ⟨(h4.lt k hk).1, (h4.lt k hk).2, cs, _, hcs, .inr (.inr rfl)⟩
theorem Rfs.fr {S : Nat → Prop} {w w' : World} {B r : Nat} {L : ML R} (h : Rfs w B r L) (hf : Fr S w w') (hs : ∀ k, RBlk w r k → ¬ S k) : Rfs w' B r L := by
  have hlt := h.lt
  obtain ⟨a, c, a', c', h1, h2, h3, h4⟩ := h
  exact ⟨a, c, a', c', (hf.block r hlt (hs r (.inl rfl))).trans h1, h2, ownsRow_fr h3 hf (fun k hk => hs k (.inr ⟨_, _, _, h1, .inl hk⟩)), ownsRow_fr h4 hf (fun k hk => hs k (.inr ⟨_, _, _, h1, .inr hk⟩))⟩
theorem Rfs.below {w w' : World} {B r : Nat} {L : ML R} (h : Rfs w B r L) (hb : Below w.heap.size w w') : Rfs w' B r L := h.fr (Fr.ofBelow hb (fun _ => False)) (fun _ _ h => h)
theorem RBlk.back {w w' : World} {r k : Nat} (h : RBlk w' r k) (he : w'.heap[r]? = w.heap[r]?) : RBlk w r k := by
  rcases h with rfl | ⟨x, y, t, e, hk⟩
  · exact .inl rfl
  · exact .inr ⟨x, y, t, he ▸ e, hk⟩
/-- Neither the package's marks nor their map are blocks of the document's. -/
theorem apart {w : World} {B r m b : Nat} {L : ML R} {L' : ML G} (h : Rfs w B r L) (hm : Fls w B m b L') : ¬ RBlk w r m ∧ ¬ RBlk w r b := by
  refine ⟨fun hk => ?_, fun hk => ?_⟩
  · obtain ⟨_, _, cs, t, e, ht⟩ := h.blk hk
    rw [hm.1] at e
    simp only [Option.some.injEq, Obj.cells.injEq] at e
    rcases ht with rfl | rfl | rfl <;> exact absurd e.2.1 (by decide)
  · obtain ⟨_, _, cs, t, e, ht⟩ := h.blk hk
    obtain ⟨es, clock, hb⟩ := hm.map
    rw [hb] at e
    cases e
theorem Rfs.new (w : World) : Rfs (w.alloc (.cells #[.slice none 0 0, .slice none 0 0] RT)) w.heap.size w.heap.size [] :=
  ⟨none, 0, none, 0, heap_alloc_new w _, Nat.le_refl _, World.ownsRow_nil _ _ _ _, World.ownsRow_nil _ _ _ _⟩
theorem Rfs.mono {w : World} {B B' r : Nat} {L : ML R} (h : Rfs w B r L) (hb : B' ≤ B) : Rfs w B' r L := by
  obtain ⟨a, c, a', c', h1, h2, h3, h4⟩ := h
  exact ⟨a, c, a', c', h1, by omega, ownsRow_mono h3 hb, ownsRow_mono h4 hb⟩

theorem look_at {L : ML R} {c k : Nat} (hk : k < L.length) (hb : ∀ j, ∀ h : j < L.length, j < k → L[j].1 ≠ c) (he : L[k].1 = c) : lk L c = some L[k].2 := by
  induction L generalizing k with
  | nil => simp at hk
  | cons x L ih =>
    cases k with
    | zero => exact look_eq he
    | succ k =>
      have h0 : x.1 ≠ c := hb 0 (by simp) (by omega)
      rw [look_ne h0]
      exact ih (by simpa using hk) (fun j h hj => hb (j + 1) (by simpa using h) (by omega)) he
theorem look_out {L : ML R} {c : Nat} (hb : ∀ j, ∀ h : j < L.length, j < L.length → L[j].1 ≠ c) : lk L c = none :=
  look_none fun x hx => by
    obtain ⟨i, hi, rfl⟩ := List.getElem_of_mem hx
    exact hb i hi hi
/-- What is read of a name, of a place. -/
theorem Rfs.name {w : World} {B n : Nat} {a : Option Addr} {c : Nat} {L : ML R} (h : w.ownsRow B TU 1 (.slice a n c) n (nbs (nms L))) (k : Nat) (hk : k < L.length) :
    ∃ g o, a = some ⟨g, o, none⟩ ∧ w.cell? ⟨g, o + k, none⟩ = some (.int .u8 (L[k].1 : Int)) ∧ n ≤ c := by
  obtain ⟨g, o, h1, h2, h3, _⟩ := (SrcV.ofOwn h (nbs_one _)).at (j := k) (u := .int .u8 (L[k].1 : Int)) (by simp [nbs, nms, hk])
  exact ⟨g, o, h1, h2, h3⟩
theorem Rfs.place {w : World} {B n : Nat} {a : Option Addr} {c : Nat} {L : ML R} (h : w.ownsRow B TR 2 (.slice a n c) n (flat (plc L))) (k : Nat) (hk : k < L.length) :
    ∃ g o, a = some ⟨g, o, none⟩ ∧ w.cell? ⟨g, o + k * 2, none⟩ = some (.int .i64 L[k].2.1) ∧ w.cell? ⟨g, o + k * 2 + 1, none⟩ = some (sv L[k].2.2) ∧ n ≤ c := by
  have hlen := h.1
  rw [flat_length, length_plc] at hlen
  obtain ⟨_, _, _, ⟨ao, he, h0⟩ | ⟨g, o, c', he, hc, _, hcell⟩⟩ := SrcV.ofOwn h (flat_cells _)
  · omega
  · injection he with e1 e2 e3
    subst e1 e3
    obtain ⟨g1, g2⟩ := flat_get (plc L) k (by rw [length_plc]; exact hk)
    have e1 : (plc L)[k]'(by rw [length_plc]; exact hk) = L[k].2 := by simp [plc]
    rw [e1] at g1 g2
    exact ⟨g, o, rfl, hcell _ _ g1, by have := hcell _ _ g2; rwa [← Nat.add_assoc] at this, hc⟩

/-- append(full, x...), where the first slice's length is its capacity: nothing old is written. -/
theorem run_append_full {P : Program} (w : World) (ty : TypeId) (t : TypeId)
    (e : TypeId) (i : TypeInfo) (z : Value) (size bytes : Nat) (ht : P.underlying t = some (.slice e)) (hi : P.info? e = some i) (hz : i.zero = some z)
    (hsize : i.size = size) (hby : i.bytes = bytes) (hzs : z.cells.size = size) (hsz : 0 < size)
    (a : Option Addr) (n : Nat) (xs : List Value) (hv : SrcV w size (.slice a n n) n xs)
    (xv : Value) (m : Nat) (news : List Value) (hx : SrcV w size xv m news)
    (h63 : n + m ≤ maxLen) (hbytes : (n + m) * bytes ≤ 140737488355328) :
    ∃ b' c' w', (Builtin.append_ #[t, t] ty #[.slice a n n, xv]).run P w = .ok (.slice b' (n + m) c') w' ∧ Below w.heap.size w w' ∧ SrcV w' size (.slice b' (n + m) c') (n + m) (xs ++ news) ∧
      (0 < m → w'.ownsRow w.heap.size e size (.slice b' (n + m) c') (n + m) (xs ++ news)) := by
  by_cases hm : m = 0
  · subst hm
    have hnil : news = [] := List.eq_nil_of_length_eq_zero (by have := hx.1; omega)
    subst hnil
    have hlc : ∀ b : Addr, (loadCellsFrom b 0 0 #[]).run P w = .ok #[] w := fun b => rfl
    have hr : (Builtin.append_ #[t, t] ty #[.slice a n n, xv]).run P w = .ok (.slice a n n) w := by
      rcases hx.2.2.2 with ⟨ao, rfl, _⟩ | ⟨b, o, c, rfl, _⟩
      · cases ao with
        | none => cases a <;> simp [Builtin.append_, run_underlying ht, sizeOf, typeInfo, hi, Builtin.lenOf, Builtin.firstCells, storeCells]
        | some ad => cases a <;> simp [Builtin.append_, run_underlying ht, sizeOf, typeInfo, hi, Builtin.lenOf, Builtin.firstCells, storeCells, loadCells, hlc, Result.andThen]
      · cases a <;> simp [Builtin.append_, run_underlying ht, sizeOf, typeInfo, hi, Builtin.lenOf, Builtin.firstCells, storeCells, loadCells, hlc, Result.andThen]
    exact ⟨a, n, w, hr, Below.refl _ _, by rw [List.append_nil]; exact hv, fun h => by omega⟩
  · obtain ⟨hl, h1, _, hc⟩ := hx
    rcases hc with ⟨ao, rfl, rfl⟩ | ⟨b, off, c, rfl, _, _, hc⟩
    · exact absurd rfl hm
    have hnews : ∀ j u, news[j]? = some u → w.cell? ((⟨b, off, none⟩ : Addr).add j) = some u := fun j u hj => by rw [Addr.add_lit]; exact hc j u hj
    have hold : (Builtin.firstCells i.size n (.slice a n n)).run P w.drew = .ok xs.toArray w.drew := by
      obtain ⟨hl', _, _, hc'⟩ := hv
      rcases hc' with ⟨ao, he, h0⟩ | ⟨b', off', c', he, _, _, hc'⟩
      · have hx0 : xs = [] := List.eq_nil_of_length_eq_zero (by rw [hl', h0, Nat.zero_mul])
        subst hx0 h0
        cases a with
        | none => exact run_firstCells_none w.drew i.size 0 0 0
        | some ad => exact run_firstCells_some w.drew i.size 0 ad 0 0 [] (by simp) (by simp)
      · injection he with e1 e2 e3
        subst e1
        exact run_firstCells_some w.drew i.size n ⟨b', off', none⟩ n n xs (by rw [hsize]; exact hl') (fun j u hu => by rw [Addr.add_lit]; exact hc' j u hu)
    subst hsize
    have hr := run_append_grow_src w t t ty e i z ht hi hz a n n xs hold (.slice (some ⟨b, off, none⟩) m c) m news (Src.ofSlice w ht ⟨b, off, none⟩ m c news hl hnews h1) (by omega) (by simp only [maxLen] at h63; omega) (growslice_fits (by omega) (by rw [hby]; exact hbytes))
    have hge := grownCap_ge w (n + m) n e
    have hown : (w.drew.alloc (.cells ((xs ++ news).toArray ++ Builtin.zeroCells z.cells (grownCap w (n + m) n e - (n + m))) e)).ownsRow w.heap.size e i.size (.slice (some ⟨w.heap.size, 0, none⟩) (n + m) (grownCap w (n + m) n e)) (n + m) (xs ++ news) := by
      have e1 : (xs ++ news).length = (n + m) * i.size := by rw [List.length_append, hv.1, hl, Nat.add_mul]
      refine ⟨e1, .inr ⟨w.heap.size, _, _, rfl, Nat.le_refl _, heap_alloc_new w.drew _, hge, grownCap_le_maxLen w _ _ _ h63, ?_, ?_⟩⟩
      · rw [Array.size_append, List.size_toArray, e1]
        simp only [Builtin.zeroCells]
        simp [hzs]
        rw [← Nat.add_mul]
        congr 1; omega
      · rw [Array.toList_append, List.toList_toArray]
        exact List.take_left' e1
    refine ⟨_, _, _, hr, (Below.refl _ w).drew.alloc (Nat.le_refl _) _, SrcV.ofOwn hown (fun u hu => ?_), fun _ => hown⟩
    rcases List.mem_append.1 hu with hu | hu
    · exact hv.2.1 u hu
    · exact h1 u hu

/-- A slice's beginning, cut at its end. -/
theorem SrcV.upto {w : World} {B : Nat} {e : TypeId} {size : Nat} {a : Option Addr} {n c k : Nat} {xs : List Value} (h : w.ownsRow B e size (.slice a n c) n xs) (hk : k ≤ n) (h1 : ∀ u ∈ xs, u.oneCell' = true) : SrcV w size (.slice a k k) k (xs.take (k * size)) := by
  have hs := SrcV.ofOwn h h1
  have hks : k * size ≤ n * size := Nat.mul_le_mul_right _ hk
  refine ⟨by rw [List.length_take, hs.1]; omega, fun u hu => h1 u (List.mem_of_mem_take hu), by have := hs.2.2.1; omega, ?_⟩
  rcases hs.2.2.2 with ⟨ao, he, h0⟩ | ⟨b, o, c', he, hc1, hc2, hc⟩
  · injection he with e1 e2 e3
    obtain rfl : k = 0 := by omega
    exact .inl ⟨a, rfl, rfl⟩
  · injection he with e1 e2 e3
    refine .inr ⟨b, o, k, by rw [e1], Nat.le_refl _, by omega, fun j u hj => hc j u ?_⟩
    rw [List.getElem?_take] at hj
    split at hj
    · exact hj
    · cases hj
/-- A slice's end. -/
def fromA (a : Option Addr) (c k size : Nat) : Option Addr := if c = k then a else a.map (·.add (k * size))
theorem SrcV.from' {w : World} {B : Nat} {e : TypeId} {size : Nat} {a : Option Addr} {n c k : Nat} {xs : List Value} (h : w.ownsRow B e size (.slice a n c) n xs) (hk : k ≤ n) (h1 : ∀ u ∈ xs, u.oneCell' = true) : SrcV w size (.slice (fromA a c k size) (n - k) (c - k)) (n - k) (xs.drop (k * size)) := by
  have hs := SrcV.ofOwn h h1
  have hks : k * size ≤ n * size := Nat.mul_le_mul_right _ hk
  refine ⟨by rw [List.length_drop, hs.1, Nat.sub_mul], fun u hu => h1 u (List.mem_of_mem_drop hu), by have := hs.2.2.1; omega, ?_⟩
  rcases hs.2.2.2 with ⟨ao, he, h0⟩ | ⟨b, o, c', he, hc1, hc2, hc⟩
  · injection he with e1 e2 e3
    obtain rfl : k = 0 := by omega
    exact .inl ⟨fromA a c 0 size, by rw [e3, h0], by omega⟩
  · injection he with e1 e2 e3
    subst e1 e3
    unfold fromA
    by_cases hck : c = k
    · rw [if_pos hck]
      refine .inr ⟨b, o, c - k, rfl, by omega, by omega, fun j u hj => ?_⟩
      have := (List.getElem?_eq_some_iff.1 hj).1
      rw [List.length_drop, hs.1, show n = k by omega] at this
      omega
    · rw [if_neg hck]
      refine .inr ⟨b, o + k * size, c - k, by rw [Option.map_some, Addr.add_lit], by omega, by omega, fun j u hj => ?_⟩
      rw [List.getElem?_drop] at hj
      rw [Nat.add_assoc]
      exact hc _ u hj
theorem cap_of {w : World} {B : Nat} {e : TypeId} {size : Nat} {a : Option Addr} {n c : Nat} {xs : List Value} (h : w.ownsRow B e size (.slice a n c) n xs) : n ≤ c ∧ c ≤ 9223372036854775807 := by
  rcases h.2 with ⟨he, h0⟩ | ⟨g, cap, cur, he, _, _, h1, h2, _⟩
  · injection he with e1 e2 e3
    omega
  · injection he with e1 e2 e3
    subst e3
    exact ⟨h1, h2⟩
theorem shape_of {w : World} {B : Nat} {e : TypeId} {size : Nat} {a : Option Addr} {n c : Nat} {xs : List Value} (h : w.ownsRow B e size (.slice a n c) n xs) : (a = none ∧ n = 0 ∧ c = 0) ∨ ∃ g, a = some ⟨g, 0, none⟩ := by
  rcases h.2 with ⟨he, h0⟩ | ⟨g, cap, cur, he, _⟩
  · injection he with e1 e2 e3
    exact .inl ⟨e1, h0, e3⟩
  · injection he with e1 e2 e3
    exact .inr ⟨g, e1⟩
theorem run_uptoU {w : World} {B : Nat} {a : Option Addr} {n c k : Nat} {xs : List Value} (h : w.ownsRow B TU 1 (.slice a n c) n xs) (hk : k ≤ n) (W : World) :
    (do let v ← Instr.sliceAt 27 (.slice a n c) none (some (.int .i64 (k : Int))) (some (.int .i64 (k : Int))); pure (Next.value v) : Sem Next).run Try.prog W = .ok (.value (.slice a k k)) W := by
  obtain ⟨h1, h2⟩ := cap_of h
  have h0 : (0 : Int) ≤ (k : Int) := by omega
  have h3 : (k : Int) ≤ (c : Int) := by omega
  rcases shape_of h with ⟨rfl, rfl, rfl⟩ | ⟨g, rfl⟩
  · obtain rfl : k = 0 := by omega
    go_simp
  · go_simp
theorem run_fromU {w : World} {B : Nat} {a : Option Addr} {n c k : Nat} {xs : List Value} (h : w.ownsRow B TU 1 (.slice a n c) n xs) (hk : k ≤ n) (W : World) :
    (do let v ← Instr.sliceAt 27 (.slice a n c) (some (.int .i64 (k : Int))) none none; pure (Next.value v) : Sem Next).run Try.prog W = .ok (.value (.slice (fromA a c k 1) (n - k) (c - k))) W := by
  obtain ⟨h1, h2⟩ := cap_of h
  have h0 : (0 : Int) ≤ (k : Int) := by omega
  have h3 : (k : Int) ≤ (n : Int) := by omega
  unfold fromA
  rcases shape_of h with ⟨rfl, rfl, rfl⟩ | ⟨g, rfl⟩
  · obtain rfl : k = 0 := by omega
    go_simp
  · go_simp
theorem run_uptoP {w : World} {B : Nat} {a : Option Addr} {n c k : Nat} {xs : List Value} (h : w.ownsRow B TR 2 (.slice a n c) n xs) (hk : k ≤ n) (W : World) :
    (do let v ← Instr.sliceAt 28 (.slice a n c) none (some (.int .i64 (k : Int))) (some (.int .i64 (k : Int))); pure (Next.value v) : Sem Next).run Try.prog W = .ok (.value (.slice a k k)) W := by
  obtain ⟨h1, h2⟩ := cap_of h
  have h0 : (0 : Int) ≤ (k : Int) := by omega
  have h3 : (k : Int) ≤ (c : Int) := by omega
  rcases shape_of h with ⟨rfl, rfl, rfl⟩ | ⟨g, rfl⟩
  · obtain rfl : k = 0 := by omega
    go_simp
  · go_simp
theorem run_fromP {w : World} {B : Nat} {a : Option Addr} {n c k : Nat} {xs : List Value} (h : w.ownsRow B TR 2 (.slice a n c) n xs) (hk : k ≤ n) (W : World) :
    (do let v ← Instr.sliceAt 28 (.slice a n c) (some (.int .i64 (k : Int))) none none; pure (Next.value v) : Sem Next).run Try.prog W = .ok (.value (.slice (fromA a c k 2) (n - k) (c - k))) W := by
  obtain ⟨h1, h2⟩ := cap_of h
  have h0 : (0 : Int) ≤ (k : Int) := by omega
  have h3 : (k : Int) ≤ (n : Int) := by omega
  unfold fromA
  rcases shape_of h with ⟨rfl, rfl, rfl⟩ | ⟨g, rfl⟩
  · obtain rfl : k = 0 := by omega
    go_simp
  · go_simp

/-- A place of a row written anew. -/
theorem own_set {w : World} {B g n c k : Nat} {l : List R} (h : w.ownsRow B TR 2 (.slice (some ⟨g, 0, none⟩) n c) n (flat l)) (hk : k < n) (x : R) :
    ((w.setCell ⟨g, k * 2, none⟩ (.int .i64 x.1)).setCell ⟨g, k * 2 + 1, none⟩ (sv x.2)).ownsRow B TR 2 (.slice (some ⟨g, 0, none⟩) n c) n (flat (l.set k x)) := by
  have hl := h.1
  rw [flat_length] at hl
  have hln : l.length = n := by omega
  rcases h.2 with ⟨he, _⟩ | ⟨g', cap, cur, he, hb, hg, h1, h2, h3, h4⟩
  · cases he
  · simp only [Value.slice.injEq, Option.some.injEq, Addr.mk.injEq, and_true, true_and] at he
    obtain ⟨rfl, rfl⟩ := he
    have e1 := heap_setCell_same w g (k * 2) _ _ (.int .i64 x.1) hg
    have e2 := heap_setCell_same _ g (k * 2 + 1) _ _ (sv x.2) e1
    refine ⟨by rw [flat_length, List.length_set]; omega, .inr ⟨g, c, _, rfl, hb, e2, h1, h2, by simpa using h3, ?_⟩⟩
    have hcur : cur.toList.length = c * 2 := by simpa using h3
    have hsplit : flat l = flat (l.take k) ++ (.int .i64 l[k].1 :: sv l[k].2 :: flat (l.drop (k + 1))) := by
      conv => lhs; rw [← List.take_append_drop k l, List.drop_eq_getElem_cons (by omega), flat_append, flat_cons]
    have hset : flat (l.set k x) = flat (l.take k) ++ (.int .i64 x.1 :: sv x.2 :: flat (l.drop (k + 1))) := by
      rw [List.set_eq_take_append_cons_drop, if_pos (by omega), flat_append, flat_cons]
    have hft : (flat (l.take k)).length = k * 2 := by rw [flat_length, List.length_take]; omega
    rw [hset]
    have hlist : cur.toList = (flat (l.take k) ++ (.int .i64 l[k].1 :: sv l[k].2 :: flat (l.drop (k + 1)))) ++ cur.toList.drop (n * 2) := by
      rw [← hsplit, ← h4, List.take_append_drop]
    simp only [Array.toList_setIfInBounds]
    rw [hlist]
    rw [List.append_assoc, List.set_append_right _ _ (by rw [hft]; omega), List.set_append_right _ _ (by rw [hft]; omega), hft, Nat.sub_self, show k * 2 + 1 - k * 2 = 1 by omega]
    simp only [List.cons_append, List.set_cons_zero, List.set_cons_succ]
    rw [← List.cons_append, ← List.cons_append, ← List.append_assoc]
    refine List.take_left' ?_
    rw [List.length_append, hft]
    simp only [List.length_cons, flat_length, List.length_drop]
    omega

set_option maxHeartbeats 1000000 in
theorem get19_raw (r B : Nat) (L : ML R) (c : Nat) (w : World) (h : Rfs w B r L) (hc : c < 256) (hl : L.length ≤ 38) : Calls Try.prog 22 #[.pointer (some ⟨r, 0, none⟩), .int .u8 (c : Int)] w fun e w' =>
    e = .returned (.tuple #[rv (lz (lk L (reg c))), .bool (lk L (reg c)).isSome]) ∧ Below w.heap.size w w' := by
  obtain ⟨a, ac, a', ac', h1, h2, h3, h4⟩ := h
  have hrl := (Array.getElem?_eq_some_iff.1 h1).1
  obtain ⟨N, hN⟩ : ∃ N, N = L.length := ⟨_, rfl⟩
  have c0 : w.cell? ⟨r, 0, none⟩ = some (.slice a N ac) := by rw [hN]; exact (cell_of_row w _ 0 _ _ _ h1).trans (by simp)
  have c1 : w.cell? ⟨r, 1, none⟩ = some (.slice a' N ac') := by rw [hN]; exact (cell_of_row w _ 1 _ _ _ h1).trans (by simp)
  rw [← hN] at h3 h4 hl
  obtain ⟨d, hd⟩ : ∃ d, d = reg c := ⟨_, rfl⟩
  rw [← hd]
  obtain ⟨A, hA⟩ : ∃ A, A = lk L d := ⟨_, rfl⟩
  rw [← hA]
  have HA := Lib.hid hA
  clear hA
  have HN := Lib.hid hN
  have HC := Lib.hid (And.intro c0 c1)
  have H3 := Lib.hid h3
  have H4 := Lib.hid h4
  clear hN h1 h2 h3 h4 c0 c1
  unfold reg at hd
  by_cases hc0 : c = 0
  · rw [if_pos hc0] at hd
    subst hc0
    clear hc
    go_enter Try.func22, Try.ntmps22
    go_wp2
    obtain ⟨w1, hw1⟩ : ∃ w1, w1 = w.alloc (.cells #[.int .i64 0, .slice none 0 0] 33) := ⟨_, rfl⟩
    have HB := Lib.hid (show Below w.heap.size w w1 by rw [hw1]; exact (Below.refl _ _).alloc (Nat.le_refl _) _)
    have HP := Lib.hid (show RegAt w1 w.heap.size (0, none, 0, 0) by rw [hw1]; exact RegAt.new w (0, none, 0, 0))
    obtain ⟨g, hg⟩ : ∃ g, g = w.heap.size := ⟨_, rfl⟩
    rw [← hw1]
    rw [← hg] at HP ⊢
    have HG := Lib.hid hg
    clear hw1 hg
    have c0 := cell_later HB.out HC.out.1
    have c1 := cell_later HB.out HC.out.2
    have HD := Lib.hid hd
    clear hd
    go_loopw [6] (fun i wr => ∃ k : Nat, k ≤ N ∧ i = .int .i64 k ∧ wr = w1 ∧ Hid (∀ j, ∀ h : j < L.length, j < k → L[j].1 ≠ d)) (fun i _ => N - (RowKit.intOf i).toNat)
    case atStart => exact ⟨0, Nat.zero_le _, rfl, rfl, fun j h hj => by omega⟩
    case round =>
      obtain ⟨k, hk, rfl, rfl, HW⟩ := hrel
      by_cases hkN : k < N
      · have hkL : k < L.length := by have := HN.out; omega
        obtain ⟨ga, oa, rfl, hn1, hn2⟩ := Rfs.name H3.out k hkL
        have hn1 := cell_later HB.out hn1
        obtain ⟨f, hf⟩ : ∃ f, f = L[k].1 := ⟨_, rfl⟩
        rw [← hf] at hn1
        by_cases hdc : f = d
        · have hlk := look_at hkL HW.out (hf ▸ hdc)
          have heq : ((f : Int) == (34 : Int)) = true := by rw [beq_iff_eq]; have := HD.out; omega
          obtain ⟨gb, ob, rfl, hp1, hp2, hp3⟩ := Rfs.place H4.out k hkL
          have hp1 := cell_later HB.out hp1
          have hp2 := cell_later HB.out hp2
          have HE0 : Hid (A = some L[k].2) := by show _ = _; rw [HA.out, hlk]
          obtain ⟨x, hx⟩ : ∃ x, x = L[k].2 := ⟨_, rfl⟩
          rw [← hx] at hp1 hp2 HE0
          obtain ⟨x, ya, yn, yc⟩ := x
          simp only [sv] at hp1 hp2
          have HE := HE0
          clear hf hlk hx HE0 hdc HW
          have q0 := HP.out.c0
          have q1 : wr.cell? ⟨g, 1, none⟩ = some (.slice none 0 0) := HP.out.c1
          have z := HP.out.z
          go_wp2
          refine ret_rs (g := g) rfl rfl rfl rfl (RegAt.set HP.out (x, ya, yn, yc)) ⟨by rw [HE.out]; rfl, ?_⟩
          exact (HB.out.setCell (p := ⟨g, 0, none⟩) (Nat.le_of_eq HG.out.symm) _).setCell (p := ⟨g, 1, none⟩) (Nat.le_of_eq HG.out.symm) _
        · have HW' : Hid (∀ j, ∀ h : j < L.length, j < k + 1 → L[j].1 ≠ d) := fun j h hj => by
            by_cases e : j = k
            · subst e; rw [← hf]; exact hdc
            · exact HW.out j h (by omega)
          have hne : ((f : Int) == (34 : Int)) = false := by rw [beq_eq_false_iff_ne]; have := HD.out; omega
          clear hf HW hdc
          go_wp2
          go_roundw
          case rel => exact ⟨k + 1, by omega, by go_num, trivial, HW'⟩
          case measure => simp [RowKit.intOf]; omega
      · obtain rfl : k = N := by omega
        have hlk := look_out (c := d) (fun j h _ => HW.out j h (by have := HN.out; omega))
        have HE := Lib.hid (show A = none by rw [HA.out, hlk])
        clear hlk HW
        have q0 := HP.out.c0
        have q1 : wr.cell? ⟨g, 1, none⟩ = some (.slice none 0 0) := HP.out.c1
        have z := HP.out.z
        go_wp2
        refine ret_rs (g := g) rfl rfl rfl rfl (RegAt.set HP.out (0, none, 0, 0)) ⟨by rw [HE.out]; rfl, ?_⟩
        exact (HB.out.setCell (p := ⟨g, 0, none⟩) (Nat.le_of_eq HG.out.symm) _).setCell (p := ⟨g, 1, none⟩) (Nat.le_of_eq HG.out.symm) _
  · rw [if_neg hc0] at hd
    have e0 : ((c : Int) == 0) = false := by rw [beq_eq_false_iff_ne]; omega
    by_cases hcap : 65 ≤ c ∧ c ≤ 90
    · rw [if_pos hcap] at hd
      have e1 : (65 : Int) ≤ (c : Int) := by omega
      have e2 : (c : Int) ≤ 90 := by omega
      have v1 : IntKind.u8.wrap ((c : Int) + 32) = (d : Int) := by rw [IntKind.wrap_u8]; omega
      clear e0 hc
      go_enter Try.func22, Try.ntmps22
      go_wp2
      obtain ⟨w1, hw1⟩ : ∃ w1, w1 = w.alloc (.cells #[.int .i64 0, .slice none 0 0] 33) := ⟨_, rfl⟩
      have HB := Lib.hid (show Below w.heap.size w w1 by rw [hw1]; exact (Below.refl _ _).alloc (Nat.le_refl _) _)
      have HP := Lib.hid (show RegAt w1 w.heap.size (0, none, 0, 0) by rw [hw1]; exact RegAt.new w (0, none, 0, 0))
      obtain ⟨g, hg⟩ : ∃ g, g = w.heap.size := ⟨_, rfl⟩
      rw [← hw1]
      rw [← hg] at HP ⊢
      have HG := Lib.hid hg
      clear hw1 hg
      have c0 := cell_later HB.out HC.out.1
      have c1 := cell_later HB.out HC.out.2
      have HD := Lib.hid hd
      clear hd hcap hc0 v1
      go_loopw [6] (fun i wr => ∃ k : Nat, k ≤ N ∧ i = .int .i64 k ∧ wr = w1 ∧ Hid (∀ j, ∀ h : j < L.length, j < k → L[j].1 ≠ d)) (fun i _ => N - (RowKit.intOf i).toNat)
      case atStart => exact ⟨0, Nat.zero_le _, rfl, rfl, fun j h hj => by omega⟩
      case round =>
        obtain ⟨k, hk, rfl, rfl, HW⟩ := hrel
        by_cases hkN : k < N
        · have hkL : k < L.length := by have := HN.out; omega
          obtain ⟨ga, oa, rfl, hn1, hn2⟩ := Rfs.name H3.out k hkL
          have hn1 := cell_later HB.out hn1
          obtain ⟨f, hf⟩ : ∃ f, f = L[k].1 := ⟨_, rfl⟩
          rw [← hf] at hn1
          by_cases hdc : f = d
          · have hlk := look_at hkL HW.out (hf ▸ hdc)
            have heq : ((f : Int) == ((c : Int) + 32)) = true := by rw [beq_iff_eq]; have := HD.out; omega
            obtain ⟨gb, ob, rfl, hp1, hp2, hp3⟩ := Rfs.place H4.out k hkL
            have hp1 := cell_later HB.out hp1
            have hp2 := cell_later HB.out hp2
            have HE0 : Hid (A = some L[k].2) := by show _ = _; rw [HA.out, hlk]
            obtain ⟨x, hx⟩ : ∃ x, x = L[k].2 := ⟨_, rfl⟩
            rw [← hx] at hp1 hp2 HE0
            obtain ⟨x, ya, yn, yc⟩ := x
            simp only [sv] at hp1 hp2
            have HE := HE0
            clear hf hlk hx HE0 hdc HW
            have q0 := HP.out.c0
            have q1 : wr.cell? ⟨g, 1, none⟩ = some (.slice none 0 0) := HP.out.c1
            have z := HP.out.z
            go_wp2
            refine ret_rs (g := g) rfl rfl rfl rfl (RegAt.set HP.out (x, ya, yn, yc)) ⟨by rw [HE.out]; rfl, ?_⟩
            exact (HB.out.setCell (p := ⟨g, 0, none⟩) (Nat.le_of_eq HG.out.symm) _).setCell (p := ⟨g, 1, none⟩) (Nat.le_of_eq HG.out.symm) _
          · have HW' : Hid (∀ j, ∀ h : j < L.length, j < k + 1 → L[j].1 ≠ d) := fun j h hj => by
              by_cases e : j = k
              · subst e; rw [← hf]; exact hdc
              · exact HW.out j h (by omega)
            have hne : ((f : Int) == ((c : Int) + 32)) = false := by rw [beq_eq_false_iff_ne]; have := HD.out; omega
            clear hf HW hdc
            go_wp2
            go_roundw
            case rel => exact ⟨k + 1, by omega, by go_num, trivial, HW'⟩
            case measure => simp [RowKit.intOf]; omega
        · obtain rfl : k = N := by omega
          have hlk := look_out (c := d) (fun j h _ => HW.out j h (by have := HN.out; omega))
          have HE := Lib.hid (show A = none by rw [HA.out, hlk])
          clear hlk HW
          have q0 := HP.out.c0
          have q1 : wr.cell? ⟨g, 1, none⟩ = some (.slice none 0 0) := HP.out.c1
          have z := HP.out.z
          go_wp2
          refine ret_rs (g := g) rfl rfl rfl rfl (RegAt.set HP.out (0, none, 0, 0)) ⟨by rw [HE.out]; rfl, ?_⟩
          exact (HB.out.setCell (p := ⟨g, 0, none⟩) (Nat.le_of_eq HG.out.symm) _).setCell (p := ⟨g, 1, none⟩) (Nat.le_of_eq HG.out.symm) _
    · rw [if_neg hcap] at hd
      subst hd
      by_cases h65 : 65 ≤ d
      · have e1 : (65 : Int) ≤ (d : Int) := by omega
        have e2 : ¬ (d : Int) ≤ 90 := by omega
        clear hcap hc
        go_enter Try.func22, Try.ntmps22
        go_wp2
        obtain ⟨w1, hw1⟩ : ∃ w1, w1 = w.alloc (.cells #[.int .i64 0, .slice none 0 0] 33) := ⟨_, rfl⟩
        have HB := Lib.hid (show Below w.heap.size w w1 by rw [hw1]; exact (Below.refl _ _).alloc (Nat.le_refl _) _)
        have HP := Lib.hid (show RegAt w1 w.heap.size (0, none, 0, 0) by rw [hw1]; exact RegAt.new w (0, none, 0, 0))
        obtain ⟨g, hg⟩ : ∃ g, g = w.heap.size := ⟨_, rfl⟩
        rw [← hw1]
        rw [← hg] at HP ⊢
        have HG := Lib.hid hg
        clear hw1 hg
        have c0 := cell_later HB.out HC.out.1
        have c1 := cell_later HB.out HC.out.2
        skip
        go_loopw [6] (fun i wr => ∃ k : Nat, k ≤ N ∧ i = .int .i64 k ∧ wr = w1 ∧ Hid (∀ j, ∀ h : j < L.length, j < k → L[j].1 ≠ d)) (fun i _ => N - (RowKit.intOf i).toNat)
        case atStart => exact ⟨0, Nat.zero_le _, rfl, rfl, fun j h hj => by omega⟩
        case round =>
          obtain ⟨k, hk, rfl, rfl, HW⟩ := hrel
          by_cases hkN : k < N
          · have hkL : k < L.length := by have := HN.out; omega
            obtain ⟨ga, oa, rfl, hn1, hn2⟩ := Rfs.name H3.out k hkL
            have hn1 := cell_later HB.out hn1
            obtain ⟨f, hf⟩ : ∃ f, f = L[k].1 := ⟨_, rfl⟩
            rw [← hf] at hn1
            by_cases hdc : f = d
            · have hlk := look_at hkL HW.out (hf ▸ hdc)
              have heq : ((f : Int) == (d : Int)) = true := by rw [beq_iff_eq]; omega
              obtain ⟨gb, ob, rfl, hp1, hp2, hp3⟩ := Rfs.place H4.out k hkL
              have hp1 := cell_later HB.out hp1
              have hp2 := cell_later HB.out hp2
              have HE0 : Hid (A = some L[k].2) := by show _ = _; rw [HA.out, hlk]
              obtain ⟨x, hx⟩ : ∃ x, x = L[k].2 := ⟨_, rfl⟩
              rw [← hx] at hp1 hp2 HE0
              obtain ⟨x, ya, yn, yc⟩ := x
              simp only [sv] at hp1 hp2
              have HE := HE0
              clear hf hlk hx HE0 hdc HW
              have q0 := HP.out.c0
              have q1 : wr.cell? ⟨g, 1, none⟩ = some (.slice none 0 0) := HP.out.c1
              have z := HP.out.z
              go_wp2
              refine ret_rs (g := g) rfl rfl rfl rfl (RegAt.set HP.out (x, ya, yn, yc)) ⟨by rw [HE.out]; rfl, ?_⟩
              exact (HB.out.setCell (p := ⟨g, 0, none⟩) (Nat.le_of_eq HG.out.symm) _).setCell (p := ⟨g, 1, none⟩) (Nat.le_of_eq HG.out.symm) _
            · have HW' : Hid (∀ j, ∀ h : j < L.length, j < k + 1 → L[j].1 ≠ d) := fun j h hj => by
                by_cases e : j = k
                · subst e; rw [← hf]; exact hdc
                · exact HW.out j h (by omega)
              have hne : ((f : Int) == (d : Int)) = false := by rw [beq_eq_false_iff_ne]; omega
              clear hf HW hdc
              go_wp2
              go_roundw
              case rel => exact ⟨k + 1, by omega, by go_num, trivial, HW'⟩
              case measure => simp [RowKit.intOf]; omega
          · obtain rfl : k = N := by omega
            have hlk := look_out (c := d) (fun j h _ => HW.out j h (by have := HN.out; omega))
            have HE := Lib.hid (show A = none by rw [HA.out, hlk])
            clear hlk HW
            have q0 := HP.out.c0
            have q1 : wr.cell? ⟨g, 1, none⟩ = some (.slice none 0 0) := HP.out.c1
            have z := HP.out.z
            go_wp2
            refine ret_rs (g := g) rfl rfl rfl rfl (RegAt.set HP.out (0, none, 0, 0)) ⟨by rw [HE.out]; rfl, ?_⟩
            exact (HB.out.setCell (p := ⟨g, 0, none⟩) (Nat.le_of_eq HG.out.symm) _).setCell (p := ⟨g, 1, none⟩) (Nat.le_of_eq HG.out.symm) _
      · have e1 : ¬ (65 : Int) ≤ (d : Int) := by omega
        clear hcap hc
        go_enter Try.func22, Try.ntmps22
        go_wp2
        obtain ⟨w1, hw1⟩ : ∃ w1, w1 = w.alloc (.cells #[.int .i64 0, .slice none 0 0] 33) := ⟨_, rfl⟩
        have HB := Lib.hid (show Below w.heap.size w w1 by rw [hw1]; exact (Below.refl _ _).alloc (Nat.le_refl _) _)
        have HP := Lib.hid (show RegAt w1 w.heap.size (0, none, 0, 0) by rw [hw1]; exact RegAt.new w (0, none, 0, 0))
        obtain ⟨g, hg⟩ : ∃ g, g = w.heap.size := ⟨_, rfl⟩
        rw [← hw1]
        rw [← hg] at HP ⊢
        have HG := Lib.hid hg
        clear hw1 hg
        have c0 := cell_later HB.out HC.out.1
        have c1 := cell_later HB.out HC.out.2
        skip
        go_loopw [6] (fun i wr => ∃ k : Nat, k ≤ N ∧ i = .int .i64 k ∧ wr = w1 ∧ Hid (∀ j, ∀ h : j < L.length, j < k → L[j].1 ≠ d)) (fun i _ => N - (RowKit.intOf i).toNat)
        case atStart => exact ⟨0, Nat.zero_le _, rfl, rfl, fun j h hj => by omega⟩
        case round =>
          obtain ⟨k, hk, rfl, rfl, HW⟩ := hrel
          by_cases hkN : k < N
          · have hkL : k < L.length := by have := HN.out; omega
            obtain ⟨ga, oa, rfl, hn1, hn2⟩ := Rfs.name H3.out k hkL
            have hn1 := cell_later HB.out hn1
            obtain ⟨f, hf⟩ : ∃ f, f = L[k].1 := ⟨_, rfl⟩
            rw [← hf] at hn1
            by_cases hdc : f = d
            · have hlk := look_at hkL HW.out (hf ▸ hdc)
              have heq : ((f : Int) == (d : Int)) = true := by rw [beq_iff_eq]; omega
              obtain ⟨gb, ob, rfl, hp1, hp2, hp3⟩ := Rfs.place H4.out k hkL
              have hp1 := cell_later HB.out hp1
              have hp2 := cell_later HB.out hp2
              have HE0 : Hid (A = some L[k].2) := by show _ = _; rw [HA.out, hlk]
              obtain ⟨x, hx⟩ : ∃ x, x = L[k].2 := ⟨_, rfl⟩
              rw [← hx] at hp1 hp2 HE0
              obtain ⟨x, ya, yn, yc⟩ := x
              simp only [sv] at hp1 hp2
              have HE := HE0
              clear hf hlk hx HE0 hdc HW
              have q0 := HP.out.c0
              have q1 : wr.cell? ⟨g, 1, none⟩ = some (.slice none 0 0) := HP.out.c1
              have z := HP.out.z
              go_wp2
              refine ret_rs (g := g) rfl rfl rfl rfl (RegAt.set HP.out (x, ya, yn, yc)) ⟨by rw [HE.out]; rfl, ?_⟩
              exact (HB.out.setCell (p := ⟨g, 0, none⟩) (Nat.le_of_eq HG.out.symm) _).setCell (p := ⟨g, 1, none⟩) (Nat.le_of_eq HG.out.symm) _
            · have HW' : Hid (∀ j, ∀ h : j < L.length, j < k + 1 → L[j].1 ≠ d) := fun j h hj => by
                by_cases e : j = k
                · subst e; rw [← hf]; exact hdc
                · exact HW.out j h (by omega)
              have hne : ((f : Int) == (d : Int)) = false := by rw [beq_eq_false_iff_ne]; omega
              clear hf HW hdc
              go_wp2
              go_roundw
              case rel => exact ⟨k + 1, by omega, by go_num, trivial, HW'⟩
              case measure => simp [RowKit.intOf]; omega
          · obtain rfl : k = N := by omega
            have hlk := look_out (c := d) (fun j h _ => HW.out j h (by have := HN.out; omega))
            have HE := Lib.hid (show A = none by rw [HA.out, hlk])
            clear hlk HW
            have q0 := HP.out.c0
            have q1 : wr.cell? ⟨g, 1, none⟩ = some (.slice none 0 0) := HP.out.c1
            have z := HP.out.z
            go_wp2
            refine ret_rs (g := g) rfl rfl rfl rfl (RegAt.set HP.out (0, none, 0, 0)) ⟨by rw [HE.out]; rfl, ?_⟩
            exact (HB.out.setCell (p := ⟨g, 0, none⟩) (Nat.le_of_eq HG.out.symm) _).setCell (p := ⟨g, 1, none⟩) (Nat.le_of_eq HG.out.symm) _
end Go.Proofs.Ytgfajagajiofnaa.Rg
