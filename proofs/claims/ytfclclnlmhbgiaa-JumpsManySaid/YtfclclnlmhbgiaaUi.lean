/-
  slices.Insert at places: over a row that the call owns, of whatever lies in another block.
-/
import Derived.Test.YtfclclnlmhbgiaaUp
import Derived.Test.YtfclclnlmhbgiaaUv
import Derived.Shelf.Spec.SlicesInsertGrow
import Derived.Deep.RegionLaw
set_option linter.unusedVariables false
set_option linter.unusedSimpArgs false
set_option maxRecDepth 100000
namespace Go.Proofs.Ytfclclnlmhbgiaa.VecQ
open Go Go.RowKit Go.Proofs.Ytfclclnlmhbgiaa.Vk Go.Proofs.Ytfclclnlmhbgiaa.Ps Go.Proofs.Ytfclclnlmhbgiaa.Ml Go.Lib

theorem extOverlaps (w : World) (x y : Value) {b : Bool} (h : (Extern.SlicesOverlaps.overlaps #[27, 27] #[4] #[x, y]).run Try.prog w = .ok (.bool b) w) :
    (callFunc 37 #[x, y]).run Try.prog w = .ok (.value (.bool b)) w := by
  rw [run_callFunc_extern Try.func37 (by kernel_rfl) (by kernel_rfl) (by kernel_rfl) (e := Extern.SlicesOverlaps.overlaps #[27, 27] #[4]) (by kernel_rfl), h]
  rfl

theorem sizeE (w : World) : (Go.sizeOf E).run Try.prog w = .ok 2 w := by kernel_rfl
theorem info2 : (Try.prog.info? E).map (·.size) = some 2 := by kernel_rfl

/-- At the end. -/
theorem sins_end (base : Nat) (b : Option Addr) (n c : Nat) (xs : List Value) (x : Value) (m : Nat) (news : List Value) (w : World) (hown : w.ownsRow base E 2 (.slice b n c) n xs)
    (hs : SrcV w 2 x m news) (hm : 0 < m) (hn : n ≤ 1000000) (hm2 : m ≤ 1000000) (hbase : base ≤ w.heap.size) :
    Calls Try.prog 29 #[.slice b n c, .int .i64 n, x] w fun e w' => ∃ b' c', e = .returned (.slice b' (n + m) c') ∧ w'.ownsRow base E 2 (.slice b' (n + m) c') (n + m) (xs ++ news) ∧ w.grownBy w' (Value.slice b n c).ownBlock ∧ NewRow w (.slice b n c) (.slice b' (n + m) c') := by
  obtain ⟨i0, hi, hz0, hz1, hz2⟩ := info_parts infoE
  obtain ⟨xb, xo, xc, rfl, hxc⟩ : ∃ b off c, x = .slice (some ⟨b, off, none⟩) m c ∧ ∀ j u, news[j]? = some u → w.cell? ⟨b, off + j, none⟩ = some u := by
    rcases hs.2.2.2 with ⟨_, _, h⟩ | ⟨b, o, c, h, _, _, h'⟩
    · omega
    · exact ⟨b, o, c, h, h'⟩
  have HX := Lib.hid hxc
  clear hxc
  have hml : n ≤ c := by
    rcases hown.2 with ⟨h, rfl⟩ | ⟨g, cap, cur, h, _, _, hnc, hm, _⟩
    · omega
    · simp only [Value.slice.injEq] at h; omega
  have hcl : c ≤ 9223372036854775807 := by
    rcases hown.2 with ⟨h, rfl⟩ | ⟨g, cap, cur, h, _, _, hnc, hm, _⟩
    · simp only [Value.slice.injEq] at h; omega
    · simp only [Value.slice.injEq] at h; unfold maxLen at hm; omega
  have hbn : b = none → n = 0 := by
    rcases hown.2 with ⟨h, rfl⟩ | ⟨g, cap, cur, h, _, _, hnc, hm, _⟩
    · intro _; rfl
    · simp only [Value.slice.injEq] at h; intro hb; rw [hb] at h; simp at h
  have hz1' : ¬ ((m : Int) = 0) := by omega
  cases b with
  | none =>
    obtain rfl := hbn rfl
    clear hbn
    go_enter Try.func29, Try.ntmps29
    go_wp2_with (at_builtin; go_must (refine append_srcv _ rfl _ _ 27 rfl base E i0 (.agg #[.int .i64 0, .int .i64 0]) 2 16 underS hi hz0 hz1 hz2 rfl (by decide) _ 0 xs rfl hown _ m news rfl hs (by simp only [maxLen]; omega) (by omega) hbase ?_); intro b' c' w1 hown1 hg hnr)
    go_ret
    refine ⟨b', c', ?_, hown1, hg, hnr⟩
    rw [Nat.zero_add]; rfl
  | some a =>
    clear hbn
    go_enter Try.func29, Try.ntmps29
    go_wp2_with (at_builtin; go_must (refine append_srcv _ rfl _ _ 27 rfl base E i0 (.agg #[.int .i64 0, .int .i64 0]) 2 16 underS hi hz0 hz1 hz2 rfl (by decide) _ n xs rfl hown _ m news rfl hs (by simp only [maxLen]; omega) (by omega) hbase ?_); intro b' c' w1 hown1 hg hnr)
    all_goals go_ret
    all_goals exact ⟨_, _, rfl, hown1, hg, hnr⟩

/-- (*Vec).Insert at the end. -/
theorem insert_end (base p : Nat) (r : Option Nat) (n : Nat) (xs : List Value) (x : Value) (m : Nat) (news : List Value) (w : World) (h : IsVec w base TV E 2 p r n xs) (h1x : ∀ u ∈ xs, u.oneCell' = true)
    (hs : SrcV w 2 x m news) (hxb : 0 < m → ∀ j, blk x = some j → r ≠ some j) (hm0 : 0 < m) (hn : n ≤ 1000000) (hm2 : m ≤ 1000000) :
    Calls Try.prog 21 #[.pointer (some ⟨p, 0, none⟩), .int .i64 n, x] w fun e w' => e = .returned (.bool true) ∧
      ∃ r', IsVec w' base TV E 2 p r' (n + m) (xs ++ news) ∧ Fr (fun b => b = p ∨ r = some b) w w' ∧ (r' = r ∨ ∃ g, r' = some g ∧ w.heap.size ≤ g) := by
  obtain ⟨sa, sc, h1, h2, h3, h4, h5⟩ := h
  have hc := cell_of_row w p 0 _ _ _ h1
  simp at hc
  have hp := (Array.getElem?_eq_some_iff.1 h1).1
  have hcon := sins_end base sa n sc xs x m news w h3 hs hm0 hn hm2 (by omega)
  have H1 := Lib.hid h1
  have H4 := Lib.hid h4
  have H5 := Lib.hid h5
  have H3 := Lib.hid h3
  clear h1 h3 h4 h5 hs hxb h1x
  have hni : ¬ ((n : Int) < 0) := by omega
  go_enter Try.func21, Try.ntmps21
  go_wp2_with fail
  refine hcon.mono ?_
  rintro e w1 ⟨b', c', rfl, hown, hg, hnr⟩
  have hb1 : w1.heap[p]? = w.heap[p]? := hg.block p hp (by rw [H4.out]; exact fun e => H5.out e.symm)
  have hc1 := cell_of_row w1 p 0 _ _ _ (hb1.trans H1.out)
  simp at hc1
  have hf1 : w1.frozen? ⟨p, 0, none⟩ = false := frozen_of_row w1 p 0 _ _ (hb1.trans H1.out)
  have HB := Lib.hid (hb1.trans H1.out)
  have HG := Lib.hid hg
  have HN := Lib.hid hnr
  have HW := Lib.hid hown
  clear hb1 hg hnr hown
  go_wp2
  go_ret
  have hne : (Value.slice b' (n + m) c').ownBlock ≠ some p := by
    rcases HN.out with h | ⟨g, h, hg⟩
    · rw [h, H4.out]; exact H5.out
    · rw [h]; intro e; injection e with e; omega
  have hfr : Fr (fun b => b = p) w1 (w1.setCell ⟨p, 0, none⟩ (.slice b' (n + m) c')) := Fr.setCell (S := fun b => b = p) (Fr.refl _ _) (fun _ => rfl) _
  refine ⟨rfl, _, ⟨b', c', ?_, h2, ownsRow_fr HW.out hfr (fun k hk e => hne (by rw [hk, e])), rfl, hne⟩, ?_, ?_⟩
  · have := heap_setCell_same w1 p 0 _ _ (.slice b' (n + m) c') HB.out
    simpa using this
  · exact ((Fr.refl _ w).grown HG.out (fun k hk _ => .inr (by rw [← H4.out, hk]))).setCell (fun _ => .inl rfl) _
  · rcases HN.out with h | ⟨g, h, hg⟩
    · exact .inl (h.trans H4.out)
    · exact .inr ⟨g, h, hg⟩

end Go.Proofs.Ytfclclnlmhbgiaa.VecQ
