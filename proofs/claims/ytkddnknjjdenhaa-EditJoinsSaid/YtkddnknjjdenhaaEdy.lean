/-
  A row of bytes that a string was made into, that is appended to, and read back: no cell of it is frozen, though the place behind its last one is.
-/
import Derived.Test.YtkddnknjjdenhaaEdl
import Derived.Deep.AppendSrc
import Derived.Deep.Upon
import Derived.Laws.IdiomStrings
set_option linter.unusedVariables false
set_option linter.unusedSimpArgs false
set_option maxRecDepth 100000
namespace Go.Proofs.Ytkddnknjjdenhaa.Ed
open Go Go.RowKit Go.Proofs.Ytkddnknjjdenhaa.Vk Go.Proofs.Ytkddnknjjdenhaa.Str Go.Proofs.Ytkddnknjjdenhaa.Ln Go.Proofs.Ytkddnknjjdenhaa.Cl Go.Proofs.Ytkddnknjjdenhaa.Mv
attribute [local go_sem] Oper.semAt_some

abbrev TU : TypeId := 5
theorem infoU : (Try.prog.info? TU).map (fun i => (i.zero, i.size, i.bytes)) = some (some (.int .u8 0), 1, 1) := by kernel_rfl
theorem underU : Try.prog.underlying 69 = some (.slice TU) := by kernel_rfl
def OwnB (w : World) (B : Nat) (a : Option Addr) (n c : Nat) (bs : ByteArray) : Prop :=
  bs.size = n ∧ ∃ g cur fz, a = some ⟨g, 0, none⟩ ∧ B ≤ g ∧ w.heap[g]? = some (.cells cur TU fz) ∧ (cur.size ≤ fz.1 ∨ fz.2 = 0) ∧ n ≤ c ∧ c ≤ maxLen ∧ cur.size = c ∧ cur.toList.take n = byteCells bs
section
variable {w w' : World} {B n c : Nat} {a : Option Addr} {bs : ByteArray}
theorem OwnB.ptr (h : OwnB w B a n c bs) : ∃ g, a = some ⟨g, 0, none⟩ ∧ B ≤ g ∧ g < w.heap.size := by
  obtain ⟨_, g, cur, fz, rfl, hb, hg, _⟩ := h
  exact ⟨g, rfl, hb, (Array.getElem?_eq_some_iff.1 hg).1⟩
theorem OwnB.cap (h : OwnB w B a n c bs) : n ≤ c ∧ c ≤ 9223372036854775807 := by
  obtain ⟨_, g, cur, fz, _, _, _, _, h1, h2, _⟩ := h
  unfold maxLen at h2
  exact ⟨h1, h2⟩
theorem OwnB.fr {S : Nat → Prop} (h : OwnB w B a n c bs) (hf : Fr S w w') (hs : ∀ k, S k → B ≤ k → False) : OwnB w' B a n c bs := by
  obtain ⟨h0, g, cur, fz, ha, hb, hg, r⟩ := h
  exact ⟨h0, g, cur, fz, ha, hb, (hf.block g (Array.getElem?_eq_some_iff.1 hg).1 (fun hS => hs g hS hb)).trans hg, r⟩
theorem OwnB.below (h : OwnB w B a n c bs) (hb : Below w.heap.size w w') : OwnB w' B a n c bs := h.fr (Fr.ofBelow hb (fun _ => False)) (fun _ h _ => h)
theorem byteCells_get (s : ByteArray) (j : Nat) (h : j < s.size) : (byteCells s)[j]? = some (.int .u8 ((s[j]'h).toNat : Int)) := by
  unfold byteCells
  rw [List.getElem?_map, List.getElem?_eq_getElem (by rw [size_str]; exact h)]
  rfl
theorem OwnB.cell {g : Nat} (h : OwnB w B (some ⟨g, 0, none⟩) n c bs) (j : Nat) (hj : j < bs.size) : w.cell? ⟨g, j, none⟩ = some (.int .u8 ((bs[j]'hj).toNat : Int)) := by
  obtain ⟨h0, g', cur, fz, ha, hb, hg, hfz, hnc, hcm, hcs, ht⟩ := h
  simp only [Option.some.injEq, Addr.mk.injEq, and_true] at ha
  subst ha
  rw [cell_of_row w g j cur TU fz hg]
  have h1 : (cur.toList.take n)[j]? = some (.int .u8 ((bs[j]'hj).toNat : Int)) := by rw [ht]; exact byteCells_get bs j hj
  rw [List.getElem?_take, if_pos (by omega)] at h1
  simpa using h1
theorem OwnB.z {g : Nat} (h : OwnB w B (some ⟨g, 0, none⟩) n c bs) (j : Nat) (hj : j < bs.size) : w.frozen? ⟨g, j, none⟩ = false := by
  obtain ⟨h0, g', cur, ⟨lo, hi⟩, ha, hb, hg, hfz, hnc, hcm, hcs, ht⟩ := h
  simp only [Option.some.injEq, Addr.mk.injEq, and_true] at ha
  subst ha
  simp only [World.frozen?, hg, Bool.and_eq_false_iff, decide_eq_false_iff_not]
  simp only at hfz
  omega
end
/-- A string made into bytes. -/
theorem conv_in (w : World) (s : ByteArray) (hs : s.size ≤ 1000000000) : ∃ c w', (convert 9 69 (.string s)).run Try.prog w = .ok (.slice (some ⟨w.heap.size, 0, none⟩) s.size c) w' ∧ OwnB w' w.heap.size (some ⟨w.heap.size, 0, none⟩) s.size c s ∧ Below w.heap.size w w' := by
  have h := run_bytes_of_string (P := Try.prog) w 9 69 TU s Try.underlying9 underU Try.underlying5
  have hg := grownCap_ge w s.size 0 TU
  refine ⟨_, _, h, ⟨rfl, w.heap.size, _, _, rfl, Nat.le_refl _, heap_alloc_new w.drew _, .inl (Nat.le_refl _), hg, grownCap_le_maxLen w s.size 0 TU (by unfold maxLen; omega), ?_, ?_⟩, (Below.refl _ w).drew.alloc (Nat.le_refl _) _⟩
  · have : s.data.size = s.size := rfl
    simp only [bytesRow, Array.size_append, Array.size_map, Array.size_replicate]
    omega
  · unfold bytesRow byteCells
    rw [Array.toList_append, Array.toList_map]
    have hl : (s.data.toList.map fun b => Value.int .u8 (b.toNat : Int)).length = s.size := by rw [List.length_map]; exact size_str s
    rw [← hl]
    exact List.take_left
theorem conv_out {w : World} {B n c : Nat} {a : Option Addr} {bs : ByteArray} (h : OwnB w B a n c bs) : (convert 69 9 (.slice a n c)).run Try.prog w = .ok (.string bs) w := by
  obtain ⟨g, rfl, _⟩ := h.ptr
  have hn : bs.data.toList.length = n := by rw [size_str]; exact h.1
  have hr := run_convert_bytes_back (P := Try.prog) w 69 9 TU ⟨g, 0, none⟩ c bs.data.toList underU Try.underlying5 Try.underlying9 (fun j hj => by
    have hj' : j < bs.size := by rw [size_str] at hj; exact hj
    have := h.cell j hj'
    rw [Addr.add_lit, Nat.zero_add]
    exact this)
  rw [hn] at hr
  rw [hr]
theorem cells_row {t : TypeId} {fz : Nat × Nat} (b : Nat) : ∀ (vs : List Value) (o : Nat) (cur : Array Value) (w : World), w.heap[b]? = some (.cells cur t fz) → o + vs.length ≤ cur.size →
    ∃ cur', (w.setCells b o vs).heap[b]? = some (.cells cur' t fz) ∧ cur'.toList = cur.toList.take o ++ vs ++ cur.toList.drop (o + vs.length) ∧ Fr (fun k => k = b) w (w.setCells b o vs)
  | [], o, cur, w, hg, hl => ⟨cur, hg, by simp, Fr.refl _ w⟩
  | v :: vs, o, cur, w, hg, hl => by
    have h1 : (w.setCell ⟨b, o, none⟩ v).heap[b]? = some (.cells (cur.setIfInBounds o v) t fz) := by simp [World.setCell, Array.getElem?_modify, hg]
    rw [List.length_cons] at hl
    obtain ⟨cur', h2, h3, h4⟩ := cells_row b vs (o + 1) (cur.setIfInBounds o v) (w.setCell ⟨b, o, none⟩ v) h1 (by simp; omega)
    refine ⟨cur', h2, ?_, ((Fr.refl (fun k => k = b) w).setCell (p := ⟨b, o, none⟩) (fun _ => rfl) v).trans h4⟩
    have e1 : (cur.toList.set o v).take (o + 1) = cur.toList.take o ++ [v] := by
      rw [List.set_eq_take_append_cons_drop, if_pos (by simp; omega), ← List.singleton_append, ← List.append_assoc]
      exact List.take_left' (by simp; omega)
    have e2 : (cur.toList.set o v).drop (o + 1 + vs.length) = cur.toList.drop (o + (vs.length + 1)) := by
      rw [List.drop_set_of_lt (by omega)]
      congr 1
      omega
    rw [h3, Array.toList_setIfInBounds, e1, e2, List.length_cons]
    simp
/-- Bytes appended. -/
theorem append_b {w : World} {B n c m : Nat} {a : Option Addr} {bs s : ByteArray} (h : OwnB w B a n c bs) (tx ty : TypeId) (x : Value) (hx : Src Try.prog 1 tx x m (byteCells s) w) (hn : n + m ≤ 1000000000) (hB : B ≤ w.heap.size) :
    ∃ a' c' w', (Builtin.append_ #[69, tx] ty #[.slice a n c, x]).run Try.prog w = .ok (.slice a' (n + m) c') w' ∧ OwnB w' B a' (n + m) c' (bs ++ s) ∧ Below B w w' := by
  obtain ⟨i0, hi0, hz0, hz1, hz2⟩ := info_parts infoU
  have hm : s.size = m := by have := hx.newsLen; rw [byteCells_length] at this; omega
  have hcat : byteCells (bs ++ s) = byteCells bs ++ byteCells s := by
    unfold byteCells
    rw [ByteArray.data_append, Array.toList_append, List.map_append]
  obtain ⟨h0, g, cur, fz, rfl, hb, hg, hfz, hnc, hcm, hcs, ht⟩ := id h
  have hsz : (bs ++ s).size = n + m := by rw [ByteArray.size_append]; omega
  by_cases hr : n + m ≤ c
  · have hcell : ∀ j, j < (byteCells s).length → (w.cell? ⟨g, 0 + n * i0.size + j, none⟩).isSome = true := fun j hj => by
      rw [byteCells_length] at hj
      rw [cell_of_row w g _ cur TU fz hg, hz1]
      simp
      omega
    have hfro : ∀ j, j < (byteCells s).length → w.frozen? ⟨g, 0 + n * i0.size + j, none⟩ = false := fun j hj => by
      rw [byteCells_length] at hj
      rw [hz1]
      obtain ⟨lo, hi⟩ := fz
      simp only [World.frozen?, hg, Bool.and_eq_false_iff, decide_eq_false_iff_not]
      simp only at hfz
      omega
    have hrun := run_append_room_src (P := Try.prog) w 69 tx ty TU i0 underU hi0 g 0 n c x m (byteCells s) (by rw [hz1]; exact hx) hr hcell hfro
    rw [hz1, Nat.zero_add, Nat.mul_one] at hrun
    obtain ⟨cur', h2, h3, h4⟩ := cells_row g (byteCells s) n cur w hg (by rw [byteCells_length]; omega)
    have hcl : cur'.size = cur.size := by
      have := congrArg List.length h3
      simp only [List.length_append, List.length_take, List.length_drop, byteCells_length, Array.length_toList] at this
      omega
    refine ⟨_, _, _, hrun, ⟨hsz, g, cur', fz, rfl, hb, h2, by rw [hcl]; exact hfz, hr, hcm, by omega, ?_⟩, h4.below hB (fun k e => by subst e; exact hb)⟩
    rw [h3, ht, hcat]
    have hl : (byteCells bs ++ byteCells s).length = n + m := by rw [List.length_append, byteCells_length, byteCells_length]; omega
    rw [← hl]
    exact List.take_left
  · have hold : (Builtin.firstCells i0.size n (.slice (some ⟨g, 0, none⟩) n c)).run Try.prog w.drew = .ok (byteCells bs).toArray w.drew := by
      refine run_firstCells_some (P := Try.prog) w.drew i0.size n ⟨g, 0, none⟩ n c (byteCells bs) (by rw [byteCells_length, hz1]; omega) (fun j v hj => ?_)
      have hj' : j < bs.size := by
        have := (List.getElem?_eq_some_iff.1 hj).1
        rw [byteCells_length] at this
        exact this
      rw [byteCells_get bs j hj'] at hj
      rw [Addr.add_lit, Nat.zero_add, ← hj]
      exact h.cell j hj'
    have hrun := run_append_grow_src (P := Try.prog) w 69 tx ty TU i0 (.int .u8 0) underU hi0 hz0 (some ⟨g, 0, none⟩) n c (byteCells bs) hold x m (byteCells s) (by rw [hz1]; exact hx) (by omega) (by omega) (by rw [hz2]; exact growslice_fits (by omega) (by omega))
    have hge := grownCap_ge w (n + m) c TU
    have hcm2 : grownCap w (n + m) c TU ≤ maxLen := grownCap_le_maxLen w (n + m) c TU (by unfold maxLen; omega)
    refine ⟨_, _, _, hrun, ⟨hsz, w.heap.size, _, (0, 0), rfl, hB, heap_alloc_new w.drew _, .inr rfl, hge, hcm2, ?_, ?_⟩, (Below.refl _ w).drew.alloc hB _⟩
    · have hz1' : (Value.int IntKind.u8 0).cells.size = 1 := rfl
      simp only [Array.size_append, List.size_toArray, size_zeroCells, hz1', List.length_append, byteCells_length]
      omega
    · rw [hcat]
      have hl : (byteCells bs ++ byteCells s).length = n + m := by rw [List.length_append, byteCells_length, byteCells_length]; omega
      simp only [Array.toList_append]
      rw [← hl]
      exact List.take_left
/-- .. as a step of the walk. -/
theorem step_append_b {ops : Array Oper} {rest : List Oper} {o : Oper} {act : Act} {Q : Exit → Act → World → Prop} (w : World) (hgd : o.guard = none) (s x : Operand) (tx : TypeId)
    (ho : o.op = .call { callee := .builtin .append, args := #[s, x], argTypes := #[69, tx] }) {B n c m : Nat} {a : Option Addr} {bs t : ByteArray} (hs : act.eval s = .slice a n c) (hown : OwnB w B a n c bs) (xv : Value) (hxe : act.eval x = xv)
    (hx : Src Try.prog 1 tx xv m (byteCells t) w) (hn : n + m ≤ 1000000000) (hB : B ≤ w.heap.size)
    (h : ∀ a' c' w', OwnB w' B a' (n + m) c' (bs ++ t) → Below B w w' → wpList Try.prog ops Q rest (act.put o.dst (.slice a' (n + m) c')) w') : wpList Try.prog ops Q (o :: rest) act w := by
  refine wpList_plain hgd fun K hK => ?_
  obtain ⟨a', c', w', hr, h2, h3⟩ := append_b hown tx o.type xv hx hn hB
  unfold Oper.wp
  simp [execOp, ho, resolve, invoke, builtin, hs, hxe, hr, Result.andThen]
  exact hK _ _ (h a' c' w' h2 h3)
end Go.Proofs.Ytkddnknjjdenhaa.Ed
