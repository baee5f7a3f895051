/-
  A map from ints to bools, told by a list without doubles; what a push makes of the lines of a list without doubles.
-/
import Derived.Test.YtfclclnlmhbgiaaUbo
import Derived.Test.YtfclclnlmhbgiaaUMany
import Derived.Maps.OwnSet
set_option linter.unusedVariables false
set_option linter.unusedSimpArgs false
set_option maxRecDepth 100000
namespace Go.Proofs.Ytfclclnlmhbgiaa.JSet
open Go Go.RowKit Go.Proofs.Ytfclclnlmhbgiaa.Vk Go.Proofs.Ytfclclnlmhbgiaa.Str Go.Proofs.Ytfclclnlmhbgiaa.Ln Go.Proofs.Ytfclclnlmhbgiaa.Cl Go.Proofs.Ytfclclnlmhbgiaa.Ml Go.Proofs.Ytfclclnlmhbgiaa.Mk Go.Proofs.Ytfclclnlmhbgiaa.Jp Go.Proofs.Ytfclclnlmhbgiaa.JMany
attribute [local go_sem] Oper.semAt_some

theorem law : Maps.Keyed Try.prog 3 := Maps.int_keyed Try.underlying3
def rdB : Value → Option (DataW Unit × List MemPlace)
  | .bool b => some (.lit (.bool b), [])
  | _ => none
theorem rdB_mk (b : Bool) : rdB (.bool b) = some (.lit (.bool b), []) := rfl
/-- The map's block, told by the list of its keys. -/
def SetW (w : World) (b : Nat) (L : List Int) : Prop := ∃ D : DataW Unit, w.ownsMap Try.prog 3 rdB b L.length D ∧ Maps.Tidy D ∧ Maps.size D = L.length ∧
  ∀ z : Int, Maps.has D (.int .i64 z) = decide (z ∈ L)
theorem key_of {z : Int} (hz : -9223372036854775808 ≤ z ∧ z ≤ 9223372036854775807) : keyOf Try.prog 3 (.int .i64 z) = some (.int .i64 z) := Maps.keyOf_int_mk Try.underlying3 (WalkArith.wf_i64 hz)
theorem tight {w : World} {b n : Nat} {D : DataW Unit} (h : w.ownsMap Try.prog 3 rdB b n D) {m : Nat} (hm : Maps.size D = m) : w.ownsMap Try.prog 3 rdB b m D := by
  obtain ⟨es, clock, hb, F, hs, rfl⟩ := h
  refine ⟨es, clock, hb, F, ?_, rfl⟩
  rw [← hm]
  simp [Maps.size, length_sorted]
theorem SetW.new (w : World) : SetW (w.alloc (.map #[] 0)) w.heap.size [] := ⟨.map [], World.ownsMap_made _ _ _ _, Maps.tidy_empty, rfl, fun z => rfl⟩
theorem SetW.fr {S : Nat → Prop} {w w' : World} {b : Nat} {L : List Int} (h : SetW w b L) (hf : Fr S w w') (hb : ¬ S b) : SetW w' b L := by
  obtain ⟨D, ⟨es, clock, hm, r⟩, h2⟩ := h
  exact ⟨D, ⟨es, clock, (hf.block b (Array.getElem?_eq_some_iff.1 hm).1 hb).trans hm, r⟩, h2⟩
theorem SetW.below {w w' : World} {b : Nat} {L : List Int} (h : SetW w b L) (hb : Below w.heap.size w w') : SetW w' b L := h.fr (Fr.ofBelow hb (fun _ => False)) (fun h => h)
theorem SetW.block {w : World} {b : Nat} {L : List Int} (h : SetW w b L) : ∃ es clock, w.heap[b]? = some (.map es clock) := by
  obtain ⟨D, ⟨es, clock, hm, _⟩, _⟩ := h
  exact ⟨es, clock, hm⟩
theorem SetW.put {w : World} {b : Nat} {L L' : List Int} (h : SetW w b L) (hn : L.length < 1000) {z : Int} (hz : -9223372036854775808 ≤ z ∧ z ≤ 9223372036854775807) (hm : ∀ y, y ∈ L' ↔ y = z ∨ y ∈ L)
    (hs' : L'.length = if z ∈ L then L.length else L.length + 1) :
    ∃ w', (Instr.mapUpdate 44 (.map (some b)) (.int .i64 z) (.bool true)).run Try.prog w = .ok () w' ∧ SetW w' b L' ∧ Fr (fun k => k = b) w w' := by
  obtain ⟨D, ho, ht, hs, hl⟩ := h
  obtain ⟨w', hr, ho', hturn⟩ := ho.store law Try.underlying44 (by unfold maxLen; omega) (key_of hz) (rdB_mk true)
  have hkey := law.key (key_of hz)
  have hsz : Maps.size (D.put (.int .i64 z) (.lit (.bool true))) = L'.length := by
    rw [Maps.size_put ht, hl z, hs, hs']
    by_cases h : z ∈ L <;> simp [h]
  refine ⟨w', hr, ⟨_, tight ho' hsz, ht.put hkey _, hsz, fun d => ?_⟩, turned_fr hturn⟩
  by_cases e : d = z
  · subst e
    rw [Maps.has_put_same ht.isMap hkey]
    exact (decide_eq_true ((hm d).2 (.inl rfl))).symm
  · have hne : (Lit.int .i64 d) ≠ Lit.int .i64 z := fun h => e (by simpa using h)
    rw [Maps.has_put_other hne, hl d]
    exact decide_eq_decide.2 ⟨fun h => (hm d).2 (.inr h), fun h => ((hm d).1 h).resolve_left e⟩
theorem SetW.len {w : World} {b : Nat} {L : List Int} (h : SetW w b L) (ty : TypeId) : (Builtin.len_ #[44] ty #[.map (some b)]).run Try.prog w = .ok (.int .i64 L.length) w := by
  obtain ⟨D, ho, ht, hs, hl⟩ := h
  rw [ho.len Try.underlying44, hs]

/-- A map's block is none of the list's. -/
theorem LstE.frm {w w' : World} {l : Nat} {ps : List P2} {at' : Nat} (h : LstE w l ps at') {j : Nat} (hf : Fr (fun k => k = j) w w') (hl : l ≠ j) {es : Array MapEntry} {clock : Nat} (hj : w.heap[j]? = some (.map es clock)) : LstE w' l ps at' := by
  obtain ⟨B, p, r, h⟩ := h
  refine ⟨B, p, r, h.fr hf hl (fun e => ?_) (fun k hk e => ?_)⟩
  · obtain ⟨b, c, hp, _⟩ := h.2.1
    rw [e, hj] at hp
    cases hp
  · obtain ⟨cs', hcs⟩ := vec_cells h.2.1 k hk
    rw [e, hj] at hcs
    cases hcs
/-- A push of a line, where there is room. -/
theorem push_lns {ps : List P2} (z y : Int) (hle : ps.length ≤ 15) : lns (pshL ps (z, y)) = cut z (lns ps) ++ [z] := by
  rw [lns_push, if_neg]
  have h := List.length_filter_le (fun z' => decide (z' ≠ z)) (lns ps)
  rw [length_lns] at h
  rw [List.length_append, List.length_singleton]
  unfold cut
  omega
theorem mem_cut {z y : Int} {L : List Int} : y ∈ cut z L ↔ y ≠ z ∧ y ∈ L := by
  unfold cut
  rw [List.mem_filter]
  simp [and_comm]
theorem push_nodup {ps : List P2} (z y : Int) (hle : ps.length ≤ 15) (h : (lns ps).Nodup) : (lns (pshL ps (z, y))).Nodup := by
  rw [push_lns z y hle]
  refine List.nodup_append.2 ⟨h.filter _, by simp, fun a ha b hb e => ?_⟩
  have hb' : b = z := by simpa using hb
  exact (mem_cut.1 ha).1 (e.trans hb')
theorem push_mem {ps : List P2} (z y : Int) (hle : ps.length ≤ 15) (x : Int) : x ∈ lns (pshL ps (z, y)) ↔ x = z ∨ x ∈ lns ps := by
  rw [push_lns z y hle, List.mem_append, mem_cut]
  simp only [List.mem_singleton]
  by_cases h : x = z <;> simp [h]
theorem cut_length {z : Int} : ∀ {L : List Int}, L.Nodup → (cut z L).length = if z ∈ L then L.length - 1 else L.length
  | [], _ => rfl
  | a :: L, h => by
    have h1 := List.nodup_cons.1 h
    by_cases e : a = z
    · subst e
      have hc : cut a L = L := List.filter_eq_self.2 (fun x hx => by simp only [decide_eq_true_eq]; exact fun e => h1.1 (e ▸ hx))
      have : cut a (a :: L) = L := by
        have h2 : cut a (a :: L) = cut a L := List.filter_cons_of_neg (by simp)
        rw [h2, hc]
      rw [this, if_pos List.mem_cons_self]
      rfl
    · have h2 : cut z (a :: L) = a :: cut z L := List.filter_cons_of_pos (by simpa using e)
      rw [h2, List.length_cons, cut_length h1.2]
      by_cases hm : z ∈ L
      · have h0 : 0 < L.length := List.length_pos_of_mem hm
        rw [if_pos hm, if_pos (List.mem_cons_of_mem _ hm), List.length_cons]
        omega
      · rw [if_neg hm, if_neg (by rw [List.mem_cons]; exact fun h => h.elim (fun h => e h.symm) hm), List.length_cons]
theorem push_length {ps : List P2} (z y : Int) (hle : ps.length ≤ 15) (h : (lns ps).Nodup) : (lns (pshL ps (z, y))).length = if z ∈ lns ps then (lns ps).length else (lns ps).length + 1 := by
  rw [push_lns z y hle, List.length_append, List.length_singleton, cut_length h]
  by_cases hm : z ∈ lns ps
  · have h0 : 0 < (lns ps).length := List.length_pos_of_mem hm
    rw [if_pos hm, if_pos hm]; omega
  · rw [if_neg hm, if_neg hm]
theorem fmap_id {f : P2 → Option P2} : ∀ {ps : List P2}, (∀ x ∈ ps, f x = some x) → ps.filterMap f = ps
  | [], _ => rfl
  | x :: ps, h => by rw [List.filterMap_cons_some (h x List.mem_cons_self), fmap_id fun y hy => h y (List.mem_cons_of_mem _ hy)]
/-- A push of a line that is not there. -/
theorem push_new {ps : List P2} {q : P2} (hle : ps.length ≤ 15) (h : q.1 ∉ lns ps) : pshL ps q = ps ++ [q] := by
  have hf : ps.filterMap (fP q.1) = ps := by
    refine fmap_id fun x hx => ?_
    unfold fP
    rw [if_neg (fun e => h (by rw [← e]; exact List.mem_map_of_mem hx))]
  unfold pshL
  rw [hf, if_neg (by rw [List.length_append, List.length_singleton]; omega)]
end Go.Proofs.Ytfclclnlmhbgiaa.JSet
