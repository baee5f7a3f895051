/-
  Package span: Cells of a text that has lines, with the number of its new blocks; what a round that only touches its own leaves.
-/
import Derived.Test.YtbimblfkkmpieaaSm
import Derived.Test.YtbimblfkkmpieaaJt
set_option linter.unusedVariables false
set_option linter.unusedSimpArgs false
set_option maxRecDepth 100000
namespace Go.Proofs.Ytbimblfkkmpieaa.Vk
open Go Go.RowKit
/-- append(nil, x...) of whatever x yields, where it yields something: one new block. -/
theorem run_append_fresh {P : Program} (w : World) (ty : TypeId) (t : TypeId)
    (e : TypeId) (i : TypeInfo) (z : Value) (size bytes : Nat) (ht : P.underlying t = some (.slice e)) (hi : P.info? e = some i) (hz : i.zero = some z)
    (hsize : i.size = size) (hby : i.bytes = bytes) (hzs : z.cells.size = size) (hsz : 0 < size)
    (xv : Value) (m : Nat) (news : List Value) (hsrc : SrcV w size xv m news) (hm : 0 < m) (h63 : m ≤ maxLen) (hbytes : m * bytes ≤ 140737488355328) :
    ∃ c' w', (Builtin.append_ #[t, t] ty #[.slice none 0 0, xv]).run P w = .ok (.slice (some ⟨w.heap.size, 0, none⟩) m c') w' ∧ w'.ownsRow w.heap.size e size (.slice (some ⟨w.heap.size, 0, none⟩) m c') m news ∧ w.grownBy w' none ∧ w'.heap.size = w.heap.size + 1 := by
  obtain ⟨hl, h1, _, hc⟩ := hsrc
  rcases hc with ⟨ao, rfl, rfl⟩ | ⟨b, off, c, rfl, _, _, hc⟩
  · omega
  · have hnews : ∀ j u, news[j]? = some u → w.cell? ((⟨b, off, none⟩ : Addr).add j) = some u := fun j u hj => by rw [Addr.add_lit]; exact hc j u hj
    subst hsize
    have hr := run_append_grow_src w t t ty e i z ht hi hz none 0 0 [] (run_firstCells_none w.drew i.size 0 0 0) (.slice (some ⟨b, off, none⟩) m c) m news (Src.ofSlice w ht ⟨b, off, none⟩ m c news hl hnews h1) (by omega) (by simp only [maxLen] at h63; omega) (growslice_fits (by omega) (by rw [hby, Nat.zero_add]; exact hbytes))
    have hge := grownCap_ge w (0 + m) 0 e
    rw [Nat.zero_add] at hr hge
    refine ⟨_, _, hr, ⟨hl, .inr ⟨w.heap.size, _, _, rfl, Nat.le_refl _, heap_alloc_new w.drew _, hge, grownCap_le_maxLen w _ _ _ h63, ?_, ?_⟩⟩, ?_, by simp⟩
    · rw [Array.size_append, List.size_toArray, List.nil_append, hl]
      simp only [Builtin.zeroCells]
      simp [hzs]
      rw [← Nat.add_mul]
      congr 1; omega
    · rw [Array.toList_append, List.toList_toArray, List.nil_append]
      exact List.take_left' hl
    · exact ⟨rfl, rfl, rfl, by simp, fun k hk _ => Below.heap_alloc w.drew _ k hk⟩
theorem append_fresh {P : Program} (w : World) {ops : Array Oper} {rest : List Oper} {o : Oper} {a : Act} {Q : Exit → Act → World → Prop} (hgd : o.guard = none) (s x : Operand) (t : TypeId)
    (ho : o.op = .call { callee := .builtin .append, args := #[s, x], argTypes := #[t, t] })
    (e : TypeId) (i : TypeInfo) (z : Value) (size bytes : Nat) (ht : P.underlying t = some (.slice e)) (hi : P.info? e = some i) (hz : i.zero = some z)
    (hsize : i.size = size) (hby : i.bytes = bytes) (hzs : z.cells.size = size) (hsz : 0 < size) (hs : a.eval s = .slice none 0 0)
    (xv : Value) (m : Nat) (news : List Value) (hx : a.eval x = xv) (hsrc : SrcV w size xv m news) (hm : 0 < m) (h63 : m ≤ maxLen) (hbytes : m * bytes ≤ 140737488355328)
    (h : ∀ c' w', w'.ownsRow w.heap.size e size (.slice (some ⟨w.heap.size, 0, none⟩) m c') m news → w.grownBy w' none → w'.heap.size = w.heap.size + 1 → wpList P ops Q rest (a.put o.dst (.slice (some ⟨w.heap.size, 0, none⟩) m c')) w') : wpList P ops Q (o :: rest) a w := by
  refine wpList_plain hgd fun K hK => ?_
  obtain ⟨c', w', hr, h2, h3, h4⟩ := run_append_fresh (P := P) w o.type t e i z size bytes ht hi hz hsize hby hzs hsz xv m news hsrc hm h63 hbytes
  unfold Oper.wp
  simp [execOp, ho, resolve, invoke, builtin, hs, hx, hr, Result.andThen]
  exact hK _ _ (h c' w' h2 h3 h4)
/-- A round that touches its own alone: what is a row stays, but for the blocks of S. -/
structure Kc (S : Nat → Prop) (A B : World) : Prop where
  os : B.os = A.os
  tape : B.tape = A.tape
  output : B.output = A.output
  size : A.heap.size ≤ B.heap.size
  row : ∀ k cs t fr, ¬ S k → A.heap[k]? = some (.cells cs t fr) → B.heap[k]? = some (.cells cs t fr)
theorem Kc.refl (S : Nat → Prop) (A : World) : Kc S A A := ⟨rfl, rfl, rfl, Nat.le_refl _, fun _ _ _ _ _ h => h⟩
theorem Kc.trans {S : Nat → Prop} {A B C : World} (h : Kc S A B) (k : Kc S B C) : Kc S A C :=
  ⟨k.os.trans h.os, k.tape.trans h.tape, k.output.trans h.output, Nat.le_trans h.size k.size, fun i cs t fr hs hh => k.row i cs t fr hs (h.row i cs t fr hs hh)⟩
theorem Kc.ofFr {S S' : Nat → Prop} {A B : World} (h : Fr S' A B) (hs : ∀ k, k < A.heap.size → S' k → S k) : Kc S A B :=
  ⟨h.os, h.tape, h.output, h.size, fun k cs t fr hk hh => by
    have hlt := (Array.getElem?_eq_some_iff.1 hh).1
    rw [h.block k hlt (fun e => hk (hs k hlt e))]; exact hh⟩
theorem Kc.ofBelow {S : Nat → Prop} {A B : World} (h : Below A.heap.size A B) : Kc S A B := Kc.ofFr (Fr.ofBelow h (fun _ => False)) (fun _ _ e => e.elim)
theorem Kc.put {S : Nat → Prop} (W : World) (l : Nat) (o o' : Obj) (h : W.heap[l]? = some o) (hc : o.isCells = false) : Kc S W (W.putObj l o') :=
  ⟨rfl, rfl, rfl, by simp, fun k cs t fr hk hh => by
    by_cases e : k = l
    · subst e
      rw [h] at hh
      cases hh
      cases hc
    · exact (World.putObj_heap_other e).trans hh⟩
theorem Kc.mono {S S' : Nat → Prop} {A B : World} (h : Kc S A B) (hs : ∀ k, S k → S' k) : Kc S' A B := ⟨h.os, h.tape, h.output, h.size, fun k cs t fr hk hh => h.row k cs t fr (fun e => hk (hs k e)) hh⟩
theorem ownsRow_kc {S : Nat → Prop} {w w' : World} {base : Nat} {e : TypeId} {size : Nat} {v : Value} {n : Nat} {xs : List Value} (h : w.ownsRow base e size v n xs) (hf : Kc S w w') (hr : ∀ k, v.ownBlock = some k → ¬ S k) : w'.ownsRow base e size v n xs := by
  refine ⟨h.1, ?_⟩
  rcases h.2 with hh | ⟨g, cap, cur, rfl, hbg, hg, hh⟩
  · exact .inl hh
  · exact .inr ⟨g, cap, cur, rfl, hbg, hf.row g _ _ _ (hr g rfl) hg, hh⟩
/-- A row cut short at its end. -/
theorem ownsRow_take {w : World} {base : Nat} {e : TypeId} {size : Nat} {b : Option Addr} {n m c : Nat} {xs : List Value} (h : w.ownsRow base e size (.slice b n c) n xs) (hm : m ≤ n) (hn : 0 < n) : w.ownsRow base e size (.slice b m c) m (xs.take (m * size)) := by
  have hl := h.1
  rcases h.2 with ⟨_, rfl⟩ | ⟨g, cap, cur, hv, hbg, hg, h1, h2, h3, h4⟩
  · omega
  · injection hv with e1 e2 e3
    subst e1 e3
    have hms : m * size ≤ n * size := Nat.mul_le_mul_right _ hm
    refine ⟨by rw [List.length_take, hl]; omega, .inr ⟨g, c, cur, rfl, hbg, hg, by omega, h2, h3, ?_⟩⟩
    rw [← h4, List.take_take, Nat.min_eq_left hms]
end Go.Proofs.Ytbimblfkkmpieaa.Vk
namespace Go.Proofs.Ytbimblfkkmpieaa.So
open Go Go.RowKit Go.Proofs.Ytbimblfkkmpieaa.Vk Go.Proofs.Ytbimblfkkmpieaa.Str Go.Proofs.Ytbimblfkkmpieaa.Ln Go.Proofs.Ytbimblfkkmpieaa.Cl Go.Shelf
attribute [local go_sem] Oper.semAt_some
/-- Cells, where there are lines: two new blocks. -/
theorem cells_two (a : Option Addr) (n c : Nat) (ls : List ByteArray) (w : World) (h : Ss w a n c ls) (hn : n ≤ 1000000) (h0 : 0 < n) : Calls Try.prog 38 #[.slice a n c] w fun e w' =>
    ∃ oc, e = .returned (.func (.func 41) #[] #[.pointer (some ⟨w.heap.size + 1, 0, none⟩)]) ∧ w'.heap[w.heap.size + 1]? = some (.cells #[.slice (some ⟨w.heap.size, 0, none⟩) n oc] 22 (0, 0)) ∧ (∃ cur, w'.heap[w.heap.size]? = some (.cells cur ES (0, 0))) ∧ Ss w' (some ⟨w.heap.size, 0, none⟩) n oc ls ∧ Below w.heap.size w w' ∧ w'.heap.size = w.heap.size + 2 := by
  obtain ⟨i0, hi0, hz0, hz1, hz2⟩ := info_parts infoS
  have hlen := h.length
  have HH := Lib.hid h
  clear h
  go_enter Try.func38, Try.ntmps38
  go_wp2_with (at_builtin; go_must (refine append_fresh _ rfl _ _ 22 rfl ES i0 (.string ⟨#[]⟩) 1 16 underS hi0 hz0 hz1 hz2 rfl (by decide) rfl _ n (ls.map .string) rfl HH.out h0 (by simp only [maxLen]; omega) (by omega) ?_); intro oc w2 hown hg hnr; have HO := Lib.hid (And.intro hown (And.intro hg hnr)); clear hown hg hnr)
  go_ret
  obtain ⟨hown, hg, hsz⟩ := HO.out
  have hf2 : Fr (fun _ => False) w w2 := (Fr.refl _ w).grown hg (by intro k hk; cases hk)
  have hb2 : Below w.heap.size w w2 := hf2.below (Nat.le_refl _) (by simp)
  have hss : Ss w2 (some ⟨w.heap.size, 0, none⟩) n oc ls := SrcV.ofOwn hown (one_cells _)
  have hrow : ∃ cur, w2.heap[w.heap.size]? = some (.cells cur ES (0, 0)) := by
    rcases hown.2 with ⟨hv, _⟩ | ⟨g, cap, cur, hv, _, hg2, _⟩
    · cases hv
    · injection hv with e1 e2 e3
      injection e1 with e1
      injection e1 with e1
      subst e1
      exact ⟨cur, hg2⟩
  obtain ⟨cur, hcur⟩ := hrow
  rw [hsz]
  refine ⟨oc, rfl, ?_, ⟨cur, (Below.heap_alloc _ _ _ (by omega)).trans hcur⟩, SrcV.below hss ((Below.refl _ w2).alloc (Nat.le_refl _) _), hb2.alloc hb2.size _, by simp [hsz]⟩
  have := heap_alloc_new w2 (.cells #[.slice (some ⟨w.heap.size, 0, none⟩) n oc] 22 (0, 0))
  rw [hsz] at this
  exact this
end Go.Proofs.Ytbimblfkkmpieaa.So
