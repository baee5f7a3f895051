/-
  A row cut at its capacity and appended to: always a new row; a slice's beginning and end; a place of a row written anew.
-/
import Derived.Test.YtmmmaadhbmgciaaMr
set_option linter.unusedVariables false
set_option linter.unusedSimpArgs false
set_option maxRecDepth 100000
namespace Go.Proofs.Ytmmmaadhbmgciaa.Mk
open Go Go.RowKit Go.Proofs.Ytmmmaadhbmgciaa.Vk Go.Proofs.Ytmmmaadhbmgciaa.Str Go.Proofs.Ytmmmaadhbmgciaa.Ln Go.Proofs.Ytmmmaadhbmgciaa.Cl Go.Proofs.Ytmmmaadhbmgciaa.Ml
attribute [local go_sem] Oper.semAt_some

/-- append(full, x...), where the first slice's length is its capacity: nothing old is written. -/
theorem run_append_full {P : Program} (w : World) (ty : TypeId) (t : TypeId)
    (e : TypeId) (i : TypeInfo) (z : Value) (size bytes : Nat) (ht : P.underlying t = some (.slice e)) (hi : P.info? e = some i) (hz : i.zero = some z)
    (hsize : i.size = size) (hby : i.bytes = bytes) (hzs : z.cells.size = size) (hsz : 0 < size)
    (a : Option Addr) (n : Nat) (xs : List Value) (hv : SrcV w size (.slice a n n) n xs)
    (xv : Value) (m : Nat) (news : List Value) (hx : SrcV w size xv m news)
    (h63 : n + m ≤ maxLen) (hbytes : (n + m) * bytes ≤ 140737488355328) :
    ∃ b' c' w', (Builtin.append_ #[t, t] ty #[.slice a n n, xv]).run P w = .ok (.slice b' (n + m) c') w' ∧ Below w.heap.size w w' ∧ SrcV w' size (.slice b' (n + m) c') (n + m) (xs ++ news) ∧
      (0 < m → w'.ownsRow w.heap.size e size (.slice b' (n + m) c') (n + m) (xs ++ news)) := by
  by_cases hm : m = 0
  · subst hm
    have hnil : news = [] := List.eq_nil_of_length_eq_zero (by have := hx.1; omega)
    subst hnil
    have hlc : ∀ b : Addr, (loadCellsFrom b 0 0 #[]).run P w = .ok #[] w := fun b => rfl
    have hr : (Builtin.append_ #[t, t] ty #[.slice a n n, xv]).run P w = .ok (.slice a n n) w := by
      rcases hx.2.2.2 with ⟨ao, rfl, _⟩ | ⟨b, o, c, rfl, _⟩
      · cases ao with
        | none => cases a <;> simp [Builtin.append_, run_underlying ht, sizeOf, typeInfo, hi, Builtin.lenOf, Builtin.firstCells, storeCells]
        | some ad => cases a <;> simp [Builtin.append_, run_underlying ht, sizeOf, typeInfo, hi, Builtin.lenOf, Builtin.firstCells, storeCells, loadCells, hlc, Result.andThen]
      · cases a <;> simp [Builtin.append_, run_underlying ht, sizeOf, typeInfo, hi, Builtin.lenOf, Builtin.firstCells, storeCells, loadCells, hlc, Result.andThen]
    exact ⟨a, n, w, hr, Below.refl _ _, by rw [List.append_nil]; exact hv, fun h => by omega⟩
  · obtain ⟨hl, h1, _, hc⟩ := hx
    rcases hc with ⟨ao, rfl, rfl⟩ | ⟨b, off, c, rfl, _, _, hc⟩
    · exact absurd rfl hm
    have hnews : ∀ j u, news[j]? = some u → w.cell? ((⟨b, off, none⟩ : Addr).add j) = some u := fun j u hj => by rw [Addr.add_lit]; exact hc j u hj
    have hold : (Builtin.firstCells i.size n (.slice a n n)).run P w.drew = .ok xs.toArray w.drew := by
      obtain ⟨hl', _, _, hc'⟩ := hv
      rcases hc' with ⟨ao, he, h0⟩ | ⟨b', off', c', he, _, _, hc'⟩
      · have hx0 : xs = [] := List.eq_nil_of_length_eq_zero (by rw [hl', h0, Nat.zero_mul])
        subst hx0 h0
        cases a with
        | none => exact run_firstCells_none w.drew i.size 0 0 0
        | some ad => exact run_firstCells_some w.drew i.size 0 ad 0 0 [] (by simp) (by simp)
      · injection he with e1 e2 e3
        subst e1
        exact run_firstCells_some w.drew i.size n ⟨b', off', none⟩ n n xs (by rw [hsize]; exact hl') (fun j u hu => by rw [Addr.add_lit]; exact hc' j u hu)
    subst hsize
    have hr := run_append_grow_src w t t ty e i z ht hi hz a n n xs hold (.slice (some ⟨b, off, none⟩) m c) m news (Src.ofSlice w ht ⟨b, off, none⟩ m c news hl hnews h1) (by omega) (by simp only [maxLen] at h63; omega) (growslice_fits (by omega) (by rw [hby]; exact hbytes))
    have hge := grownCap_ge w (n + m) n e
    have hown : (w.drew.alloc (.cells ((xs ++ news).toArray ++ Builtin.zeroCells z.cells (grownCap w (n + m) n e - (n + m))) e)).ownsRow w.heap.size e i.size (.slice (some ⟨w.heap.size, 0, none⟩) (n + m) (grownCap w (n + m) n e)) (n + m) (xs ++ news) := by
      have e1 : (xs ++ news).length = (n + m) * i.size := by rw [List.length_append, hv.1, hl, Nat.add_mul]
      refine ⟨e1, .inr ⟨w.heap.size, _, _, rfl, Nat.le_refl _, heap_alloc_new w.drew _, hge, grownCap_le_maxLen w _ _ _ h63, ?_, ?_⟩⟩
      · rw [Array.size_append, List.size_toArray, e1]
        simp only [Builtin.zeroCells]
        simp [hzs]
        rw [← Nat.add_mul]
        congr 1; omega
      · rw [Array.toList_append, List.toList_toArray]
        exact List.take_left' e1
    refine ⟨_, _, _, hr, (Below.refl _ w).drew.alloc (Nat.le_refl _) _, SrcV.ofOwn hown (fun u hu => ?_), fun _ => hown⟩
    rcases List.mem_append.1 hu with hu | hu
    · exact hv.2.1 u hu
    · exact h1 u hu

/-- A slice's beginning, cut at its end. -/
theorem SrcV.upto {w : World} {B : Nat} {e : TypeId} {size : Nat} {a : Option Addr} {n c k : Nat} {xs : List Value} (h : w.ownsRow B e size (.slice a n c) n xs) (hk : k ≤ n) (h1 : ∀ u ∈ xs, u.oneCell' = true) : SrcV w size (.slice a k k) k (xs.take (k * size)) := by
  have hs := SrcV.ofOwn h h1
  have hks : k * size ≤ n * size := Nat.mul_le_mul_right _ hk
  refine ⟨by rw [List.length_take, hs.1]; omega, fun u hu => h1 u (List.mem_of_mem_take hu), by have := hs.2.2.1; omega, ?_⟩
  rcases hs.2.2.2 with ⟨ao, he, h0⟩ | ⟨b, o, c', he, hc1, hc2, hc⟩
  · injection he with e1 e2 e3
    obtain rfl : k = 0 := by omega
    exact .inl ⟨a, rfl, rfl⟩
  · injection he with e1 e2 e3
    refine .inr ⟨b, o, k, by rw [e1], Nat.le_refl _, by omega, fun j u hj => hc j u ?_⟩
    rw [List.getElem?_take] at hj
    split at hj
    · exact hj
    · cases hj
/-- A slice's end. -/
def fromA (a : Option Addr) (c k size : Nat) : Option Addr := if c = k then a else a.map (·.add (k * size))
theorem SrcV.from' {w : World} {B : Nat} {e : TypeId} {size : Nat} {a : Option Addr} {n c k : Nat} {xs : List Value} (h : w.ownsRow B e size (.slice a n c) n xs) (hk : k ≤ n) (h1 : ∀ u ∈ xs, u.oneCell' = true) : SrcV w size (.slice (fromA a c k size) (n - k) (c - k)) (n - k) (xs.drop (k * size)) := by
  have hs := SrcV.ofOwn h h1
  have hks : k * size ≤ n * size := Nat.mul_le_mul_right _ hk
  refine ⟨by rw [List.length_drop, hs.1, Nat.sub_mul], fun u hu => h1 u (List.mem_of_mem_drop hu), by have := hs.2.2.1; omega, ?_⟩
  rcases hs.2.2.2 with ⟨ao, he, h0⟩ | ⟨b, o, c', he, hc1, hc2, hc⟩
  · injection he with e1 e2 e3
    obtain rfl : k = 0 := by omega
    exact .inl ⟨fromA a c 0 size, by rw [e3, h0], by omega⟩
  · injection he with e1 e2 e3
    subst e1 e3
    unfold fromA
    by_cases hck : c = k
    · rw [if_pos hck]
      refine .inr ⟨b, o, c - k, rfl, by omega, by omega, fun j u hj => ?_⟩
      have := (List.getElem?_eq_some_iff.1 hj).1
      rw [List.length_drop, hs.1, show n = k by omega] at this
      omega
    · rw [if_neg hck]
      refine .inr ⟨b, o + k * size, c - k, by rw [Option.map_some, Addr.add_lit], by omega, by omega, fun j u hj => ?_⟩
      rw [List.getElem?_drop] at hj
      rw [Nat.add_assoc]
      exact hc _ u hj
theorem cap_of {w : World} {B : Nat} {e : TypeId} {size : Nat} {a : Option Addr} {n c : Nat} {xs : List Value} (h : w.ownsRow B e size (.slice a n c) n xs) : n ≤ c ∧ c ≤ 9223372036854775807 := by
  rcases h.2 with ⟨he, h0⟩ | ⟨g, cap, cur, he, _, _, h1, h2, _⟩
  · injection he with e1 e2 e3
    omega
  · injection he with e1 e2 e3
    subst e3
    exact ⟨h1, h2⟩
theorem shape_of {w : World} {B : Nat} {e : TypeId} {size : Nat} {a : Option Addr} {n c : Nat} {xs : List Value} (h : w.ownsRow B e size (.slice a n c) n xs) : (a = none ∧ n = 0 ∧ c = 0) ∨ ∃ g, a = some ⟨g, 0, none⟩ := by
  rcases h.2 with ⟨he, h0⟩ | ⟨g, cap, cur, he, _⟩
  · injection he with e1 e2 e3
    exact .inl ⟨e1, h0, e3⟩
  · injection he with e1 e2 e3
    exact .inr ⟨g, e1⟩
theorem run_uptoU {w : World} {B : Nat} {a : Option Addr} {n c k : Nat} {xs : List Value} (h : w.ownsRow B TU 1 (.slice a n c) n xs) (hk : k ≤ n) (W : World) :
    (do let v ← Instr.sliceAt 32 (.slice a n c) none (some (.int .i64 (k : Int))) (some (.int .i64 (k : Int))); pure (Next.value v) : Sem Next).run Try.prog W = .ok (.value (.slice a k k)) W := by
  obtain ⟨h1, h2⟩ := cap_of h
  have h0 : (0 : Int) ≤ (k : Int) := by omega
  have h3 : (k : Int) ≤ (c : Int) := by omega
  rcases shape_of h with ⟨rfl, rfl, rfl⟩ | ⟨g, rfl⟩
  · obtain rfl : k = 0 := by omega
    go_simp
  · go_simp
theorem run_fromU {w : World} {B : Nat} {a : Option Addr} {n c k : Nat} {xs : List Value} (h : w.ownsRow B TU 1 (.slice a n c) n xs) (hk : k ≤ n) (W : World) :
    (do let v ← Instr.sliceAt 32 (.slice a n c) (some (.int .i64 (k : Int))) none none; pure (Next.value v) : Sem Next).run Try.prog W = .ok (.value (.slice (fromA a c k 1) (n - k) (c - k))) W := by
  obtain ⟨h1, h2⟩ := cap_of h
  have h0 : (0 : Int) ≤ (k : Int) := by omega
  have h3 : (k : Int) ≤ (n : Int) := by omega
  unfold fromA
  rcases shape_of h with ⟨rfl, rfl, rfl⟩ | ⟨g, rfl⟩
  · obtain rfl : k = 0 := by omega
    go_simp
  · go_simp
theorem run_uptoP {w : World} {B : Nat} {a : Option Addr} {n c k : Nat} {xs : List Value} (h : w.ownsRow B EP 2 (.slice a n c) n xs) (hk : k ≤ n) (W : World) :
    (do let v ← Instr.sliceAt 33 (.slice a n c) none (some (.int .i64 (k : Int))) (some (.int .i64 (k : Int))); pure (Next.value v) : Sem Next).run Try.prog W = .ok (.value (.slice a k k)) W := by
  obtain ⟨h1, h2⟩ := cap_of h
  have h0 : (0 : Int) ≤ (k : Int) := by omega
  have h3 : (k : Int) ≤ (c : Int) := by omega
  rcases shape_of h with ⟨rfl, rfl, rfl⟩ | ⟨g, rfl⟩
  · obtain rfl : k = 0 := by omega
    go_simp
  · go_simp
theorem run_fromP {w : World} {B : Nat} {a : Option Addr} {n c k : Nat} {xs : List Value} (h : w.ownsRow B EP 2 (.slice a n c) n xs) (hk : k ≤ n) (W : World) :
    (do let v ← Instr.sliceAt 33 (.slice a n c) (some (.int .i64 (k : Int))) none none; pure (Next.value v) : Sem Next).run Try.prog W = .ok (.value (.slice (fromA a c k 2) (n - k) (c - k))) W := by
  obtain ⟨h1, h2⟩ := cap_of h
  have h0 : (0 : Int) ≤ (k : Int) := by omega
  have h3 : (k : Int) ≤ (n : Int) := by omega
  unfold fromA
  rcases shape_of h with ⟨rfl, rfl, rfl⟩ | ⟨g, rfl⟩
  · obtain rfl : k = 0 := by omega
    go_simp
  · go_simp

/-- A place of a row written anew. -/
theorem own_set {w : World} {B g n c k : Nat} {l : List P2} (h : w.ownsRow B EP 2 (.slice (some ⟨g, 0, none⟩) n c) n (flat l)) (hk : k < n) (x y : Int) :
    ((w.setCell ⟨g, k * 2, none⟩ (.int .i64 x)).setCell ⟨g, k * 2 + 1, none⟩ (.int .i64 y)).ownsRow B EP 2 (.slice (some ⟨g, 0, none⟩) n c) n (flat (l.set k (x, y))) := by
  have hl := h.1
  rw [flat_length] at hl
  have hln : l.length = n := by omega
  rcases h.2 with ⟨he, _⟩ | ⟨g', cap, cur, he, hb, hg, h1, h2, h3, h4⟩
  · cases he
  · simp only [Value.slice.injEq, Option.some.injEq, Addr.mk.injEq, and_true, true_and] at he
    obtain ⟨rfl, rfl⟩ := he
    have e1 := heap_setCell_same w g (k * 2) _ _ (.int .i64 x) hg
    have e2 := heap_setCell_same _ g (k * 2 + 1) _ _ (.int .i64 y) e1
    refine ⟨by rw [flat_length, List.length_set]; omega, .inr ⟨g, c, _, rfl, hb, e2, h1, h2, by simpa using h3, ?_⟩⟩
    have hcur : cur.toList.length = c * 2 := by simpa using h3
    have hsplit : flat l = flat (l.take k) ++ (.int .i64 l[k].1 :: .int .i64 l[k].2 :: flat (l.drop (k + 1))) := by
      conv => lhs; rw [← List.take_append_drop k l, List.drop_eq_getElem_cons (by omega), flat_append, flat_cons]
    have hset : flat (l.set k (x, y)) = flat (l.take k) ++ (.int .i64 x :: .int .i64 y :: flat (l.drop (k + 1))) := by
      rw [List.set_eq_take_append_cons_drop, if_pos (by omega), flat_append, flat_cons]
    have hft : (flat (l.take k)).length = k * 2 := by rw [flat_length, List.length_take]; omega
    rw [hset]
    have hlist : cur.toList = (flat (l.take k) ++ (.int .i64 l[k].1 :: .int .i64 l[k].2 :: flat (l.drop (k + 1)))) ++ cur.toList.drop (n * 2) := by
      rw [← hsplit, ← h4, List.take_append_drop]
    simp only [Array.toList_setIfInBounds]
    rw [hlist]
    rw [List.append_assoc, List.set_append_right _ _ (by rw [hft]; omega), List.set_append_right _ _ (by rw [hft]; omega), hft, Nat.sub_self, show k * 2 + 1 - k * 2 = 1 by omega]
    simp only [List.cons_append, List.set_cons_zero, List.set_cons_succ]
    rw [← List.cons_append, ← List.cons_append, ← List.append_assoc]
    refine List.take_left' ?_
    rw [List.length_append, hft]
    simp only [List.length_cons, flat_length, List.length_drop]
    omega
end Go.Proofs.Ytmmmaadhbmgciaa.Mk
