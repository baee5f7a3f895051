/-
  Rows of elements of several cells; a string's bytes appended to a row; pieces as plain lists: no program in sight.
-/
import Derived.Test.YtfclclnlmhbgiaaIns
import Derived.Deep.AppendSrc
import Derived.RegionTactic
set_option linter.unusedVariables false
set_option linter.unusedSimpArgs false
set_option maxRecDepth 100000
namespace Go.Proofs.Ytfclclnlmhbgiaa.Vk
open Go Go.RowKit

theorem mem_byteCells (s : ByteArray) : ∀ u ∈ byteCells s, u.oneCell' = true := by
  intro u hu
  obtain ⟨_, _, rfl⟩ := List.mem_map.1 hu
  rfl

/-- append(own, s...), s a string that is not empty. -/
theorem run_append_strv {P : Program} (w : World) (ty t tx : TypeId) (base : Nat) (e : TypeId) (i : TypeInfo) (z : Value) (bytes : Nat) (ht : P.underlying t = some (.slice e)) (htx : P.underlying tx = some .string) (hi : P.info? e = some i) (hz : i.zero = some z)
    (hsize : i.size = 1) (hby : i.bytes = bytes) (hzs : z.cells.size = 1)
    (v : Value) (n : Nat) (xs : List Value) (hown : w.ownsRow base e 1 v n xs) (s : ByteArray) (hm : 0 < s.size)
    (h63 : n + s.size ≤ maxLen) (hbytes : (n + s.size) * bytes ≤ 140737488355328) (hbase : base ≤ w.heap.size) :
    ∃ b' c' w', (Builtin.append_ #[t, tx] ty #[v, .string s]).run P w = .ok (.slice b' (n + s.size) c') w' ∧ w'.ownsRow base e 1 (.slice b' (n + s.size) c') (n + s.size) (xs ++ byteCells s) ∧ w.grownBy w' v.ownBlock ∧ NewRow w v (.slice b' (n + s.size) c') := by
  have hs : Src P 1 tx (.string s) s.size (byteCells s) w := Src.ofString w htx s
  have hl : (byteCells s).length = s.size := byteCells_length s
  have hxl : xs.length = n := by have := hown.1; omega
  have grow : ∀ (bs : Option Addr) (cap : Nat) (hv : v = .slice bs n cap) (hroom : cap < n + s.size) (hold : (Builtin.firstCells i.size n (.slice bs n cap)).run P w.drew = .ok xs.toArray w.drew), ∃ b' c' w', (Builtin.append_ #[t, tx] ty #[v, .string s]).run P w = .ok (.slice b' (n + s.size) c') w' ∧ w'.ownsRow base e 1 (.slice b' (n + s.size) c') (n + s.size) (xs ++ byteCells s) ∧ w.grownBy w' v.ownBlock ∧ NewRow w v (.slice b' (n + s.size) c') := by
    intro bs cap hv hroom hold
    have hr := run_append_grow_src w t tx ty e i z ht hi hz bs n cap xs hold (.string s) s.size (byteCells s) (by rw [hsize]; exact hs) hroom (by simp only [maxLen] at h63; omega) (growslice_fits hroom (by rw [hby]; exact hbytes))
    rw [hv]
    have hge := grownCap_ge w (n + s.size) cap e
    refine ⟨_, _, _, hr, ⟨by simp [hxl, hl], .inr ⟨w.heap.size, _, _, rfl, hbase, heap_alloc_new w.drew _, hge, grownCap_le_maxLen w _ _ _ h63, ?_, ?_⟩⟩, ?_, .inr ⟨_, rfl, Nat.le_refl _⟩⟩
    · have e1 : (xs ++ byteCells s).length = n + s.size := by simp [hxl, hl]
      rw [Array.size_append, List.size_toArray, e1]
      simp only [Builtin.zeroCells]
      simp [hzs]
      omega
    · rw [Array.toList_append, List.toList_toArray]
      exact List.take_left' (by simp [hxl, hl])
    · exact ⟨rfl, rfl, rfl, by simp, fun k hk _ => Below.heap_alloc w.drew _ k hk⟩
  rcases hown.2 with ⟨rfl, rfl⟩ | ⟨g, cap, cur, rfl, hbg, hg, hnc, hcm, hcs, htake⟩
  · have hx : xs = [] := List.eq_nil_of_length_eq_zero (by simpa using hown.1)
    subst hx
    exact grow none 0 rfl (by omega) (run_firstCells_none w.drew i.size 0 0 0)
  · by_cases hroom : n + s.size ≤ cap
    · have hr := run_append_room_src w t tx ty e i ht hi g 0 n cap (.string s) s.size (byteCells s) (by rw [hsize]; exact hs) hroom
        (fun j hj => by rw [cell_of_row w g _ _ _ _ hg, hsize, Array.getElem?_eq_getElem (by omega)]; rfl) (fun j hj => by simp [World.frozen?, hg])
      rw [hsize] at hr
      simp only [Nat.zero_add, Nat.mul_one] at hr htake
      have hh := setCells_heap g (byteCells s) n w cur e hg (by omega)
      refine ⟨_, _, _, hr, ⟨by simp [hxl, hl], .inr ⟨g, cap, _, rfl, hbg, hh, hroom, hcm, ?_, ?_⟩⟩, grownBy_setCells w g _ _, .inl rfl⟩
      · rw [List.size_toArray, length_splice _ _ _ (by simp; omega)]; simp; omega
      · simp only [Nat.mul_one, splice]
        rw [htake, ← List.append_assoc]
        exact List.take_left' (by simp [hxl, hl])
    · exact grow _ cap rfl (by omega) (run_firstCells_some w.drew i.size n ⟨g, 0, none⟩ n cap xs (by rw [hsize]; exact hown.1) (fun j u hu => by simpa using hown.cells (g := g) rfl j u hu))

/-- .. as a law for the walk. -/
theorem append_strv {P : Program} (w : World) {ops : Array Oper} {rest : List Oper} {o : Oper} {a : Act} {Q : Exit → Act → World → Prop} (hgd : o.guard = none) (s x : Operand) (t tx : TypeId)
    (ho : o.op = .call { callee := .builtin .append, args := #[s, x], argTypes := #[t, tx] })
    (base : Nat) (e : TypeId) (i : TypeInfo) (z : Value) (bytes : Nat) (ht : P.underlying t = some (.slice e)) (htx : P.underlying tx = some .string) (hi : P.info? e = some i) (hz : i.zero = some z)
    (hsize : i.size = 1) (hby : i.bytes = bytes) (hzs : z.cells.size = 1)
    (v : Value) (n : Nat) (xs : List Value) (hs : a.eval s = v) (hown : w.ownsRow base e 1 v n xs)
    (st : ByteArray) (hx : a.eval x = .string st) (hm : 0 < st.size)
    (h63 : n + st.size ≤ maxLen) (hbytes : (n + st.size) * bytes ≤ 140737488355328) (hbase : base ≤ w.heap.size)
    (h : ∀ b' c' w', w'.ownsRow base e 1 (.slice b' (n + st.size) c') (n + st.size) (xs ++ byteCells st) → w.grownBy w' v.ownBlock → NewRow w v (.slice b' (n + st.size) c') → wpList P ops Q rest (a.put o.dst (.slice b' (n + st.size) c')) w') : wpList P ops Q (o :: rest) a w := by
  refine wpList_plain hgd fun K hK => ?_
  obtain ⟨b', c', w', hr, h2, h3, h4⟩ := run_append_strv (P := P) w o.type t tx base e i z bytes ht htx hi hz hsize hby hzs v n xs hown st hm h63 hbytes hbase
  unfold Oper.wp
  simp [execOp, ho, resolve, invoke, builtin, hs, hx, hr, Result.andThen]
  exact hK _ _ (h b' c' w' h2 h3 h4)

/-- .. and as one step of a region that draws its order. -/
theorem step_append_strv {P : Program} {ops : Array Oper} {o : Oper} {a : Act} {w : World} {K : Act → World → Prop} {Q : Exit → Act → World → Prop} {X : Prop} (hgd : o.guard = none) (s x : Operand) (t tx : TypeId)
    (ho : o.op = .call { callee := .builtin .append, args := #[s, x], argTypes := #[t, tx] })
    (base : Nat) (e : TypeId) (i : TypeInfo) (z : Value) (bytes : Nat) (ht : P.underlying t = some (.slice e)) (htx : P.underlying tx = some .string) (hi : P.info? e = some i) (hz : i.zero = some z)
    (hsize : i.size = 1) (hby : i.bytes = bytes) (hzs : z.cells.size = 1)
    (v : Value) (n : Nat) (xs : List Value) (hs : a.eval s = v) (hown : w.ownsRow base e 1 v n xs)
    (st : ByteArray) (hx : a.eval x = .string st) (hm : 0 < st.size)
    (h63 : n + st.size ≤ maxLen) (hbytes : (n + st.size) * bytes ≤ 140737488355328) (hbase : base ≤ w.heap.size)
    (h : ∀ b' c' w', w'.ownsRow base e 1 (.slice b' (n + st.size) c') (n + st.size) (xs ++ byteCells st) → w.grownBy w' v.ownBlock → NewRow w v (.slice b' (n + st.size) c') → K (a.put o.dst (.slice b' (n + st.size) c')) w') :
    if Region.wanted o (yielded ops a.tmps) = true then Oper.wp P o a w K Q else X := by
  have hw : Region.wanted o (yielded ops a.tmps) = true := by simp [Region.wanted, hgd]
  rw [if_pos hw]
  obtain ⟨b', c', w', hr, h2, h3, h4⟩ := run_append_strv (P := P) w o.type t tx base e i z bytes ht htx hi hz hsize hby hzs v n xs hown st hm h63 hbytes hbase
  unfold Oper.wp
  simp [execOp, ho, resolve, invoke, builtin, hs, hx, hr, Result.andThen]
  exact h b' c' w' h2 h3 h4

/-- copy of elements of several cells: all is read before anything is written. -/
theorem run_copy_cellsN {P : Program} (w : World) (dT sT ty elem : TypeId) (size b o dLen dCap : Nat) (a : Addr) (sLen sCap : Nat) (cs : List Value)
    (hu : P.underlying dT = some (.slice elem)) (hs : (P.info? elem).map (·.size) = some size) (q : Nat) (hq : q = Nat.min sLen dLen) (hn : cs.length = q * size)
    (hsrc : ∀ j v, cs[j]? = some v → w.cell? (a.add j) = some v) (hc : ∀ j, j < cs.length → (w.cell? ⟨b, o + j, none⟩).isSome = true) (hf : ∀ j, j < cs.length → w.frozen? ⟨b, o + j, none⟩ = false) (h1 : ∀ v ∈ cs, v.oneCell' = true) :
    (Builtin.copy_ #[dT, sT] ty #[.slice (some ⟨b, o, none⟩) dLen dCap, .slice (some a) sLen sCap]).run P w = .ok (goInt q) (w.setCells b o cs) := by
  have hl := run_loadCells_list (P := P) w a cs hsrc
  have hst := run_storeCells_cells (P := P) b o cs 0 w (by simpa using hc) (by simpa using hf) h1
  cases hq' : P.info? elem with
  | none => simp [hq'] at hs
  | some i =>
    have hi : i.size = size := by simpa [hq'] using hs
    subst hq
    rw [hn] at hl
    simp [Builtin.copy_, run_underlying hu, Builtin.lenOf, Builtin.firstCells, sizeOf, typeInfo, hq', hi, hl, hst]

theorem zeroCells_one (z : Array Value) (n : Nat) (h : ∀ v ∈ z.toList, v.oneCell' = true) : ∀ v ∈ (Builtin.zeroCells z n).toList, v.oneCell' = true := by
  intro v hv
  simp only [Builtin.zeroCells, Array.toList_map, List.mem_map] at hv
  obtain ⟨i, hi, rfl⟩ := hv
  have hi' : i < n * z.size := by simpa using hi
  have h0 : 0 < z.size := by
    rcases Nat.eq_zero_or_pos z.size with h0 | h0
    · rw [h0, Nat.mul_zero] at hi'; omega
    · exact h0
  have hm := Nat.mod_lt i h0
  rw [getElem!_pos z _ hm]
  exact h _ (by simp)

/-- clear of elements of several cells. -/
theorem run_clear_sliceN {P : Program} (w : World) (t e ty : TypeId) (z : Value) (size : Nat) (ht : P.underlying t = some (.slice e)) (hv : ∀ w, (zeroValue e).run P w = .ok z w) (hz : z.cells.size = size) (h1 : ∀ v ∈ z.cells.toList, v.oneCell' = true) (b o n c : Nat) (hn : 0 < n)
    (hc : ∀ j, j < n * size → (w.cell? ⟨b, o + j, none⟩).isSome = true) (hf : ∀ j, j < n * size → w.frozen? ⟨b, o + j, none⟩ = false) :
    (Builtin.clear_ #[t] ty #[.slice (some ⟨b, o, none⟩) n c]).run P w = .ok (.tuple #[]) (w.setCells b o (Builtin.zeroCells z.cells n).toList) := by
  have hl : (Builtin.zeroCells z.cells n).toList.length = n * size := by rw [Array.length_toList, size_zeroCells, hz]
  have hst := run_storeCells_cells (P := P) b o (Builtin.zeroCells z.cells n).toList 0 w (by rw [hl]; simpa using hc) (by rw [hl]; simpa using hf) (zeroCells_one _ _ h1)
  simp only [Nat.add_zero] at hst
  obtain ⟨m, rfl⟩ : ∃ m, n = m + 1 := ⟨n - 1, by omega⟩
  simp [Builtin.clear_, run_underlying ht, hv, hst]

/-- Cells laid within a row. -/
theorem splice_take {α : Type} (cur xs cs : List α) (N o : Nat) (ht : cur.take N = xs) (hN : N ≤ cur.length) (ho : o + cs.length ≤ N) : (splice cur o cs).take N = xs.take o ++ cs ++ xs.drop (o + cs.length) := by
  have h1 : (cur.take o).length = o := by simp; omega
  unfold splice
  rw [List.take_append, List.take_append, List.take_of_length_le (l := cur.take o) (by omega), List.take_of_length_le (l := cs) (by omega), h1, ← ht, List.take_take, Nat.min_eq_left (by omega), List.drop_take, List.append_assoc]
  congr 3
  omega

theorem own_cells_set {w : World} {base : Nat} {e : TypeId} {size g n c : Nat} {xs : List Value} (h : w.ownsRow base e size (.slice (some ⟨g, 0, none⟩) n c) n xs) (o : Nat) (cs : List Value) (ho : o + cs.length ≤ n * size) :
    (w.setCells g o cs).ownsRow base e size (.slice (some ⟨g, 0, none⟩) n c) n (xs.take o ++ cs ++ xs.drop (o + cs.length)) := by
  have hl := h.1
  rcases h.2 with ⟨hv, _⟩ | ⟨g', cap, cur, hv, hb, hg, hnc, hm, hcs, htk⟩
  · simp at hv
  · simp only [Value.slice.injEq, Option.some.injEq, Addr.mk.injEq, and_true, true_and] at hv
    obtain ⟨rfl, rfl⟩ := hv
    have hfit : n * size ≤ c * size := Nat.mul_le_mul_right _ hnc
    have hh := setCells_heap g cs o w cur e hg (by omega)
    refine ⟨by simp; omega, .inr ⟨g, c, _, rfl, hb, hh, hnc, hm, ?_, ?_⟩⟩
    · rw [List.size_toArray, length_splice _ _ _ (by simp; omega)]; simpa using hcs
    · exact splice_take cur.toList xs cs (n * size) o htk (by simp; omega) ho

end Go.Proofs.Ytfclclnlmhbgiaa.Vk

namespace Go.Proofs.Ytfclclnlmhbgiaa.Tb
open Go Go.RowKit Go.Proofs.Ytfclclnlmhbgiaa.Vk

/-- A piece: its buffer, where it begins there, its size. -/
structure Pc where
  b : Nat
  s : Nat
  z : Nat

def Pc.cells (p : Pc) : List Value := [.int .i64 p.b, .int .i64 p.s, .int .i64 p.z]
def Pc.val (p : Pc) : Value := .agg #[.int .i64 p.b, .int .i64 p.s, .int .i64 p.z]
def flat (ps : List Pc) : List Value := ps.flatMap Pc.cells

/-- What a piece is, of the buffers B; which pieces may be. -/
def Pc.txt (B : Nat → List UInt8) (p : Pc) : List UInt8 := ((B p.b).drop p.s).take p.z
def Pc.ok (B : Nat → List UInt8) (p : Pc) : Prop := p.b < 2 ∧ 0 < p.z ∧ p.s + p.z ≤ (B p.b).length
def txt (B : Nat → List UInt8) (ps : List Pc) : List UInt8 := ps.flatMap (Pc.txt B)
def tot (ps : List Pc) : Nat := (ps.map Pc.z).sum

theorem flat_nil : flat [] = [] := rfl
theorem flat_cons (p : Pc) (ps : List Pc) : flat (p :: ps) = p.cells ++ flat ps := rfl
theorem flat_append (a b : List Pc) : flat (a ++ b) = flat a ++ flat b := by simp [flat]
theorem flat_length : ∀ ps : List Pc, (flat ps).length = ps.length * 3
  | [] => rfl
  | p :: ps => by rw [flat_cons, List.length_append, flat_length ps]; simp [Pc.cells]; omega
theorem flat_one : ∀ (ps : List Pc), ∀ u ∈ flat ps, u.oneCell' = true := by
  intro ps u hu
  obtain ⟨p, _, h⟩ := List.mem_flatMap.1 hu
  simp [Pc.cells] at h
  rcases h with rfl | rfl | rfl <;> rfl
theorem flat_take (ps : List Pc) (i : Nat) (hi : i ≤ ps.length) : (flat ps).take (i * 3) = flat (ps.take i) := by
  conv => lhs; rw [← List.take_append_drop i ps, flat_append]
  exact List.take_left' (by rw [flat_length, List.length_take]; omega)
theorem flat_drop (ps : List Pc) (i : Nat) (hi : i ≤ ps.length) : (flat ps).drop (i * 3) = flat (ps.drop i) := by
  conv => lhs; rw [← List.take_append_drop i ps, flat_append]
  exact List.drop_left' (by rw [flat_length, List.length_take]; omega)
theorem flat_at (ps : List Pc) (k : Nat) (p : Pc) (h : ps[k]? = some p) : (flat ps)[k * 3]? = some (.int .i64 p.b) ∧ (flat ps)[k * 3 + 1]? = some (.int .i64 p.s) ∧ (flat ps)[k * 3 + 2]? = some (.int .i64 p.z) := by
  obtain ⟨hlt, hp⟩ := List.getElem?_eq_some_iff.1 h
  have hd := flat_drop ps k (by omega)
  rw [List.drop_eq_getElem_cons hlt, hp, flat_cons] at hd
  have g : ∀ j, (flat ps)[k * 3 + j]? = (p.cells ++ flat (ps.drop (k + 1)))[j]? := fun j => by rw [← hd, List.getElem?_drop]
  exact ⟨by have := g 0; simpa [Pc.cells] using this, by have := g 1; simpa [Pc.cells] using this, by have := g 2; simpa [Pc.cells] using this⟩
theorem flat_set (ps : List Pc) (k : Nat) (p : Pc) (hk : k < ps.length) : flat (ps.set k p) = (flat ps).take (k * 3) ++ p.cells ++ (flat ps).drop ((k + 1) * 3) := by
  rw [flat_take ps k (by omega), flat_drop ps (k + 1) (by omega), List.set_eq_take_append_cons_drop, if_pos hk, flat_append, flat_cons, List.append_assoc]

theorem txt_append (B : Nat → List UInt8) (a b : List Pc) : txt B (a ++ b) = txt B a ++ txt B b := by simp [txt]
theorem txt_cons (B : Nat → List UInt8) (p : Pc) (b : List Pc) : txt B (p :: b) = p.txt B ++ txt B b := rfl
theorem tot_append (a b : List Pc) : tot (a ++ b) = tot a + tot b := by simp [tot]
theorem tot_cons (p : Pc) (b : List Pc) : tot (p :: b) = p.z + tot b := by simp [tot]
theorem Pc.txt_length {B : Nat → List UInt8} {p : Pc} (h : p.ok B) : (p.txt B).length = p.z := by
  have := h.2.2
  simp [Pc.txt]; omega
theorem txt_length {B : Nat → List UInt8} : ∀ {ps : List Pc}, (∀ p ∈ ps, p.ok B) → (txt B ps).length = tot ps
  | [], _ => rfl
  | p :: ps, h => by rw [txt_cons, tot_cons, List.length_append, Pc.txt_length (h p (by simp)), txt_length (fun q hq => h q (by simp [hq]))]
theorem tot_take_le (ps : List Pc) (i : Nat) : tot (ps.take i) ≤ tot ps := by
  conv => rhs; rw [← List.take_append_drop i ps, tot_append]
  omega
theorem txt_take {B : Nat → List UInt8} {ps : List Pc} (h : ∀ p ∈ ps, p.ok B) (i : Nat) : txt B (ps.take i) = (txt B ps).take (tot (ps.take i)) := by
  conv => rhs; rw [← List.take_append_drop i ps, txt_append]
  exact (List.take_left' (by rw [txt_length (fun q hq => h q (List.mem_of_mem_take hq)), List.take_append_drop])).symm
theorem txt_drop {B : Nat → List UInt8} {ps : List Pc} (h : ∀ p ∈ ps, p.ok B) (i : Nat) : txt B (ps.drop i) = (txt B ps).drop (tot (ps.take i)) := by
  conv => rhs; rw [← List.take_append_drop i ps, txt_append]
  exact (List.drop_left' (by rw [txt_length (fun q hq => h q (List.mem_of_mem_take hq)), List.take_append_drop])).symm
theorem tot_take_succ (ps : List Pc) (k : Nat) (p : Pc) (h : ps[k]? = some p) : tot (ps.take (k + 1)) = tot (ps.take k) + p.z := by
  obtain ⟨hlt, hp⟩ := List.getElem?_eq_some_iff.1 h
  rw [List.take_succ_eq_append_getElem hlt, tot_append, hp, tot_cons]
  rfl
theorem tot_take_mono (ps : List Pc) {i j : Nat} (h : i ≤ j) : tot (ps.take i) ≤ tot (ps.take j) := by
  have : ps.take i = (ps.take j).take i := by rw [List.take_take, Nat.min_eq_left h]
  rw [this]; exact tot_take_le _ _
theorem tot_take_lt {B : Nat → List UInt8} {ps : List Pc} (h : ∀ p ∈ ps, p.ok B) {i j : Nat} (hij : i < j) (hj : j ≤ ps.length) : tot (ps.take i) < tot (ps.take j) := by
  have h1 := tot_take_mono ps (i := i + 1) (j := j) hij
  have h2 := tot_take_succ ps i ps[i] (List.getElem?_eq_getElem (by omega))
  have h3 := (h ps[i] (List.getElem_mem (by omega))).2.1
  omega

/-- What split leaves: pieces that part at off. -/
structure Parted (B : Nat → List UInt8) (ps : List Pc) (off : Nat) (qs : List Pc) (i : Nat) : Prop where
  le : i ≤ qs.length
  ok : ∀ p ∈ qs, p.ok B
  ahead : tot (qs.take i) = off
  same : txt B qs = txt B ps
  few : qs.length ≤ ps.length + 1
  kept : ∀ j, j ≤ ps.length → tot (ps.take j) ≤ off → j ≤ i ∧ qs.take j = ps.take j

theorem parted_at {B : Nat → List UInt8} {ps : List Pc} (h : ∀ p ∈ ps, p.ok B) {i : Nat} (hi : i ≤ ps.length) : Parted B ps (tot (ps.take i)) ps i :=
  ⟨hi, h, rfl, rfl, by omega, fun j hj ht => ⟨by
    rcases Nat.lt_or_ge i j with hlt | hge
    · have := tot_take_lt h hlt hj; omega
    · exact hge, rfl⟩⟩

theorem parted_in {B : Nat → List UInt8} {ps : List Pc} (h : ∀ p ∈ ps, p.ok B) {i left : Nat} {p : Pc} (hp : ps[i]? = some p) (h0 : 0 < left) (hl : left < p.z) :
    Parted B ps (tot (ps.take i) + left) (((ps.set i ⟨p.b, p.s, left⟩).take (i + 1)) ++ [⟨p.b, p.s + left, p.z - left⟩] ++ ((ps.set i ⟨p.b, p.s, left⟩).drop (i + 1))) (i + 1) := by
  obtain ⟨hlt, hpe⟩ := List.getElem?_eq_some_iff.1 hp
  have hpo := h p (hpe ▸ List.getElem_mem hlt)
  have e1 : (ps.set i ⟨p.b, p.s, left⟩).take (i + 1) = ps.take i ++ [⟨p.b, p.s, left⟩] := by
    rw [List.take_succ_eq_append_getElem (by simpa using hlt), List.take_set_of_le (by omega)]
    simp
  have e2 : (ps.set i ⟨p.b, p.s, left⟩).drop (i + 1) = ps.drop (i + 1) := by
    rw [List.drop_set_of_lt (by omega)]
  rw [e1, e2]
  have hz : (ps.take i).length = i := by rw [List.length_take]; omega
  have htk : (ps.take i ++ [(⟨p.b, p.s, left⟩ : Pc)] ++ [(⟨p.b, p.s + left, p.z - left⟩ : Pc)] ++ ps.drop (i + 1)).take (i + 1) = ps.take i ++ [(⟨p.b, p.s, left⟩ : Pc)] := by
    rw [List.append_assoc]
    exact List.take_left' (by simp [hz])
  refine ⟨by simp; omega, ?_, ?_, ?_, by simp; omega, ?_⟩
  · intro q hq
    simp only [List.mem_append, List.mem_singleton] at hq
    have := hpo.2.2
    rcases hq with ((hq | rfl) | rfl) | hq
    · exact h q (List.mem_of_mem_take hq)
    · exact ⟨hpo.1, h0, by show p.s + left ≤ (B p.b).length; omega⟩
    · exact ⟨hpo.1, by show 0 < p.z - left; omega, by show p.s + left + (p.z - left) ≤ (B p.b).length; omega⟩
    · exact h q (List.mem_of_mem_drop hq)
  · rw [htk, tot_append]; simp [tot]
  · have e3 : ps = ps.take i ++ p :: ps.drop (i + 1) := by
      conv => lhs; rw [← List.take_append_drop i ps, List.drop_eq_getElem_cons hlt, hpe]
    conv => rhs; rw [e3]
    have e4 : Pc.txt B ⟨p.b, p.s, left⟩ ++ Pc.txt B ⟨p.b, p.s + left, p.z - left⟩ = Pc.txt B p := by
      show ((B p.b).drop p.s).take left ++ ((B p.b).drop (p.s + left)).take (p.z - left) = ((B p.b).drop p.s).take p.z
      rw [← List.drop_drop]
      conv => rhs; rw [show p.z = left + (p.z - left) by omega, List.take_add]
    have e5 : ∀ q : Pc, txt B [q] = q.txt B := fun q => by simp [txt]
    rw [txt_append, txt_append, txt_append, txt_append, e5, e5, txt_cons, ← e4]
    simp only [List.append_assoc]
  · intro j hj ht
    have hji : j ≤ i := by
      rcases Nat.lt_or_ge i j with hlt' | hge
      · have := tot_take_mono ps (i := i + 1) (j := j) hlt'
        have := tot_take_succ ps i p hp
        omega
      · exact hge
    refine ⟨by omega, ?_⟩
    rw [List.append_assoc, List.append_assoc, List.take_append_of_le_length (by rw [hz]; exact hji), List.take_take, Nat.min_eq_left hji]

/-- What an insertion makes of it. -/
theorem put_txt {B B' : Nat → List UInt8} {ps qs : List Pc} {off i : Nat} (hp : Parted B ps off qs i) (q : Pc) (s : List UInt8) (hq : q.ok B') (hqt : q.txt B' = s) (hB : ∀ p : Pc, p.ok B → p.ok B' ∧ p.txt B' = p.txt B) :
    (∀ p ∈ qs.take i ++ [q] ++ qs.drop i, p.ok B') ∧ txt B' (qs.take i ++ [q] ++ qs.drop i) = (txt B ps).take off ++ s ++ (txt B ps).drop off := by
  refine ⟨?_, ?_⟩
  · intro p hp'
    simp only [List.mem_append, List.mem_singleton] at hp'
    rcases hp' with (h | rfl) | h
    · exact (hB p (hp.ok p (List.mem_of_mem_take h))).1
    · exact hq
    · exact (hB p (hp.ok p (List.mem_of_mem_drop h))).1
  · have e : ∀ l : List Pc, (∀ p ∈ l, p.ok B) → txt B' l = txt B l := fun l hl => by
      unfold txt
      induction l with
      | nil => rfl
      | cons p l ih =>
        simp only [List.flatMap_cons]
        rw [(hB p (hl p (by simp))).2, ih (fun q hq => hl q (by simp [hq]))]
    rw [txt_append, txt_append, e _ (fun p h => hp.ok p (List.mem_of_mem_take h)), e _ (fun p h => hp.ok p (List.mem_of_mem_drop h)), txt_take hp.ok, txt_drop hp.ok, hp.ahead, hp.same]
    congr 2
    show q.txt B' ++ txt B' [] = s
    rw [hqt]; simp [txt]

/-- What a deletion makes of it: first at off, then at off + n. -/
theorem cut_txt {B : Nat → List UInt8} {ps qs rs : List Pc} {off n i j : Nat} (h1 : Parted B ps off qs i) (h2 : Parted B qs (off + n) rs j) (hn : 0 < n) :
    i < j ∧ j ≤ rs.length ∧ (∀ p ∈ rs.take i ++ rs.drop j, p.ok B) ∧ txt B (rs.take i ++ rs.drop j) = (txt B ps).take off ++ (txt B ps).drop (off + n) ∧ (rs.take i ++ rs.drop j).length ≤ ps.length + 1 := by
  obtain ⟨hij, hk⟩ := h2.kept i h1.le (by rw [h1.ahead]; omega)
  have hti : tot (rs.take i) = off := by rw [hk, h1.ahead]
  have hlt : i < j := by
    rcases Nat.lt_or_ge i j with h | h
    · exact h
    · have := tot_take_mono rs h
      rw [h2.ahead, hti] at this
      omega
  refine ⟨hlt, h2.le, ?_, ?_, ?_⟩
  · intro p hp
    rcases List.mem_append.1 hp with h | h
    · exact h2.ok p (List.mem_of_mem_take h)
    · exact h2.ok p (List.mem_of_mem_drop h)
  · rw [txt_append, txt_take h2.ok, txt_drop h2.ok, hti, h2.ahead, h2.same, h1.same]
  · have a := h1.few
    have b := h2.few
    have c := h2.le
    simp
    omega

/-- What slice gathers, piece by piece. -/
theorem gather (T u : List UInt8) (o n : Nat) : ((T ++ u).drop o).take n = (T.drop o).take n ++ (u.drop (o - T.length)).take (n - ((T.drop o).take n).length) := by
  rw [List.drop_append, List.take_append]
  congr 2
  simp
  omega

end Go.Proofs.Ytfclclnlmhbgiaa.Tb
