/-
  slices.Delete at places over a row that the call owns; (*Vec[piece]).Delete.
-/
import Derived.Test.YtfclclnlmhbgiaaUi
import Derived.Shelf.Slices.Delete
set_option linter.unusedVariables false
set_option linter.unusedSimpArgs false
set_option maxRecDepth 100000
namespace Go.Proofs.Ytfclclnlmhbgiaa.VecQ
open Go Go.RowKit Go.Proofs.Ytfclclnlmhbgiaa.Vk Go.Proofs.Ytfclclnlmhbgiaa.Ps Go.Proofs.Ytfclclnlmhbgiaa.Ml Go.Lib

set_option maxHeartbeats 2000000 in
set_option maxRecDepth 100000 in
theorem sdel (base g : Nat) (n c i j : Nat) (xs : List Value) (w : World) (hown : w.ownsRow base E 2 (.slice (some ⟨g, 0, none⟩) n c) n xs) (h1x : ∀ u ∈ xs, u.oneCell' = true)
    (hij : i < j) (hj : j ≤ n) (hn : n ≤ 1000000) :
    Calls Try.prog 31 #[.slice (some ⟨g, 0, none⟩) n c, .int .i64 i, .int .i64 j] w fun e w' => e = .returned (.slice (some ⟨g, 0, none⟩) (n - (j - i)) c) ∧ w'.ownsRow base E 2 (.slice (some ⟨g, 0, none⟩) (n - (j - i)) c) (n - (j - i)) (xs.take (i * 2) ++ xs.drop (j * 2)) ∧ w.grownBy w' (some g) := by
  obtain ⟨i0, hi0, hz0, hz1, hz2⟩ := info_parts infoE
  obtain ⟨cur, hbg, hgg, hnc, hcm, hcs, htk⟩ : ∃ cur : Array Value, base ≤ g ∧ w.heap[g]? = some (.cells cur E (0, 0)) ∧ n ≤ c ∧ c ≤ maxLen ∧ cur.size = c * 2 ∧ cur.toList.take (n * 2) = xs := by
    rcases hown.2 with ⟨h, _⟩ | ⟨g', cap, cur, h, hb, hg, hnc, hm, hcs, htk⟩
    · simp at h
    · simp only [Value.slice.injEq, Option.some.injEq, Addr.mk.injEq, and_true, true_and] at h
      obtain ⟨rfl, rfl⟩ := h
      exact ⟨cur, hb, hg, hnc, hm, hcs, htk⟩
  have hcl : xs.length = n * 2 := hown.1
  have hc63 : c ≤ 9223372036854775807 := by simpa [maxLen] using hcm
  obtain ⟨news, hnews⟩ : ∃ news, news = xs.drop (j * 2) := ⟨_, rfl⟩
  have hlen : news.length = (n - j) * 2 := by rw [hnews, List.length_drop, hcl, Nat.sub_mul]
  have hfz : ∀ o, w.frozen? ⟨g, o, none⟩ = false := fun o => hown.frozenAt o
  have hcur : ∀ o, o < c * 2 → (w.cell? ⟨g, o, none⟩).isSome = true := fun o ho => by
    rw [cell_of_row w g _ _ _ _ hgg, Array.getElem?_eq_getElem (by omega)]; rfl
  obtain ⟨A, hA, hsrc⟩ : ∃ A : Addr, (if c = j then some (⟨g, 0, none⟩ : Addr) else some ⟨g, j * 2, none⟩) = some A ∧ Hid (∀ t u, news[t]? = some u → w.drew.cell? (A.add t) = some u) := by
    by_cases h : c = j
    · refine ⟨⟨g, 0, none⟩, by simp [h], fun t u hu => ?_⟩
      have h0 : news.length = 0 := by rw [hlen]; omega
      rw [List.length_eq_zero_iff.1 h0] at hu
      simp at hu
    · refine ⟨⟨g, j * 2, none⟩, by simp [h], fun t u hu => ?_⟩
      have ht : t < (n - j) * 2 := by
        have := (List.getElem?_eq_some_iff.1 hu).1
        rwa [hlen] at this
      rw [hnews, List.getElem?_drop] at hu
      rw [Addr.add_lit]
      show w.cell? _ = _
      have hcc := hown.cells (g := g) rfl _ _ hu
      rw [Addr.add_lit, Nat.zero_add] at hcc
      exact hcc
  have s1 : Hid (news.length = (n - j) * 2) := hlen
  have s2 : Hid (∀ u ∈ news, u.oneCell' = true) := by
    intro u hu
    rw [hnews] at hu
    exact h1x u (List.mem_of_mem_drop hu)
  have s3 : Hid (∀ t, t < news.length → (w.drew.cell? ⟨g, 0 + i * 2 + t, none⟩).isSome = true ∧ w.drew.frozen? ⟨g, 0 + i * 2 + t, none⟩ = false) := by
    intro t ht
    rw [hlen] at ht
    exact ⟨hcur _ (by omega), hfz _⟩
  obtain ⟨W1, hW1⟩ : ∃ W1, W1 = w.drew.setCells g (0 + i * 2) news := ⟨_, rfl⟩
  have hg1 : W1.heap[g]? = some (.cells (splice cur.toList (i * 2) news).toArray E (0, 0)) := by
    rw [hW1]
    have := setCells_heap g news (0 + i * 2) w.drew cur E hgg (by omega)
    simpa using this
  have hL1 : (splice cur.toList (i * 2) news).length = c * 2 := by rw [length_splice _ _ _ (by simp; omega)]; simp; omega
  obtain ⟨Z, hZ⟩ : ∃ Z, Z = (Builtin.zeroCells (Value.agg #[.int .i64 0, .int .i64 0]).cells (n - (i + (n - j)))).toList := ⟨_, rfl⟩
  have hZl : Z.length = (n - (i + (n - j))) * 2 := by rw [hZ, Array.length_toList, size_zeroCells]; rfl
  have hcl1 : ∀ ty, (Builtin.clear_ #[27] ty #[.slice (some ⟨g, (i + (n - j)) * 2, none⟩) (n - (i + (n - j))) (c - (i + (n - j)))]).run Try.prog W1 = .ok (.tuple #[]) (W1.setCells g ((i + (n - j)) * 2) Z) :=
    fun ty => by
     rw [hZ]
     exact run_clear_sliceN W1 _ _ ty (.agg #[.int .i64 0, .int .i64 0]) 2 underS (fun w => by kernel_rfl) rfl (by simp [Value.cells, Value.oneCell']) g ((i + (n - j)) * 2) _ _ (by omega) (fun t ht => by rw [cell_of_row W1 g _ _ _ _ hg1, Array.getElem?_eq_getElem (by simp [hL1]; omega)]; rfl) (fun t ht => by simp [World.frozen?, hg1])
  have HO : Hid (W1.heap[g]? = some (.cells (splice cur.toList (i * 2) news).toArray E (0, 0)) ∧ (splice cur.toList (i * 2) news).length = c * 2 ∧ cur.toList.take (n * 2) = xs ∧ cur.size = c * 2 ∧ xs.length = n * 2 ∧ news = xs.drop (j * 2) ∧ Z.length = (n - (i + (n - j))) * 2) := ⟨hg1, hL1, htk, hcs, hcl, hnews, hZl⟩
  have hW : Hid (W1 = w.drew.setCells g (0 + i * 2) news) := hW1
  have hic : i ≤ c := by omega
  have hjc : j ≤ c := by omega
  clear hZ hZl hW1 hg1 hL1 hnews hlen hown hgg hcs htk hcl hfz hcur h1x
  go_enter Try.func31, Try.ntmps31
  go_wp2_with fail
  go_region_law (refine step_append_room rfl (.tmp 22) (.tmp 25) 27 rfl E i0 2 underS hi0 hz1 g 0 i c (by simp [Act.eval, Act.put]) A (n - j) (c - j) news (by simp [Act.eval, Act.put]) s1.out hsrc.out s2.out (by omega) s3.out ?_; rw [← hW.out])
  go_wp2
  go_ret
  obtain ⟨hg1, hL1, htk, hcs, hcl, hnews, hZl⟩ := HO.out
  have hh := setCells_heap g Z ((i + (n - j)) * 2) W1 _ E hg1 (by simp [hL1]; omega)
  refine ⟨by rw [show n - (j - i) = i + (n - j) by omega]; rfl, ⟨by simp [hcl]; omega, .inr ⟨g, c, _, rfl, hbg, hh, by omega, hcm, ?_, ?_⟩⟩, ?_⟩
  · rw [List.size_toArray, length_splice _ _ _ (by simp [hL1]; omega)]; simp [hL1]
  · rw [hnews, Nat.sub_mul, Nat.sub_mul, Nat.add_mul, Nat.sub_mul]
    exact cut_list cur.toList xs _ (n * 2) (i * 2) (j * 2) (by simp; omega) htk (by omega) (by omega)
  · have a := grownBy_setCells w.drew g news (0 + i * 2)
    rw [← hW.out] at a
    have b := grownBy_setCells W1 g Z ((i + (n - j)) * 2)
    exact ⟨b.os.trans a.os, b.tape.trans a.tape, b.output.trans a.output, Nat.le_trans a.size b.size, fun k hk hn => (b.block k (Nat.lt_of_lt_of_le hk a.size) hn).trans (a.block k hk hn)⟩

set_option maxHeartbeats 2000000 in
/-- (*Vec).Delete of q elements, which are there. -/
theorem delete_in (base p : Nat) (r : Option Nat) (n : Nat) (xs : List Value) (i q : Nat) (cnt : Int) (w : World) (h : IsVec w base TV E 2 p r n xs) (h1x : ∀ u ∈ xs, u.oneCell' = true)
    (hi : i < n) (hcnt : 1 ≤ cnt) (hc64 : cnt ≤ 9223372036854775807) (hq : (q : Int) = min cnt ((n : Int) - i)) (hn : n ≤ 1000000) :
    Calls Try.prog 23 #[.pointer (some ⟨p, 0, none⟩), .int .i64 i, .int .i64 cnt] w fun e w' =>
      ∃ b' c', e = .returned (.slice b' q c') ∧ w'.ownsRow w.heap.size E 2 (.slice b' q c') q ((xs.drop (i * 2)).take (q * 2)) ∧
      IsVec w' base TV E 2 p r (n - q) (xs.take (i * 2) ++ xs.drop ((i + q) * 2)) ∧ Fr (fun b => b = p ∨ r = some b) w w' := by
  have H := h
  obtain ⟨sa, sc, h1, h2, h3, h4, h5⟩ := h
  have hc := cell_of_row w p 0 _ _ _ h1
  simp at hc
  have hp := (Array.getElem?_eq_some_iff.1 h1).1
  obtain ⟨g, rfl⟩ : ∃ g, sa = some ⟨g, 0, none⟩ := by
    rcases h3.2 with ⟨h, h0⟩ | ⟨g, cap, cur, h, _⟩
    · omega
    · simp only [Value.slice.injEq] at h; exact ⟨g, h.1⟩
  have hg : g < w.heap.size := (h3.lt g rfl).2
  have hsc : n ≤ sc ∧ sc ≤ 9223372036854775807 := by
    rcases h3.2 with ⟨h, h0⟩ | ⟨g, cap, cur, h, _, _, hnc, hm, _⟩
    · omega
    · simp only [Value.slice.injEq] at h; unfold maxLen at hm; omega
  obtain ⟨hsc1, hsc2⟩ := hsc
  have hq1 : 1 ≤ q ∧ q ≤ n - i := by omega
  obtain ⟨hq1, hq2⟩ := hq1
  have hmin : min cnt ((n : Int) - i) = (q : Int) := hq.symm
  clear hq
  have hsrc : SrcV w 2 (.slice (some ⟨g, i * 2, none⟩) q (sc - i)) q ((xs.drop (i * 2)).take (q * 2)) := by
    have hl := h3.1
    refine ⟨by simp; omega, fun u hu => h1x u (List.mem_of_mem_drop (List.mem_of_mem_take hu)), by simp only [maxLen]; omega, .inr ⟨g, i * 2, sc - i, rfl, by omega, by simp only [maxLen]; omega, fun j u hj => ?_⟩⟩
    have hlt := (List.getElem?_eq_some_iff.1 hj).1
    simp at hlt
    rw [List.getElem?_take, if_pos (by omega), List.getElem?_drop] at hj
    have hcc := h3.cells (g := g) rfl _ _ hj
    rw [Addr.add_lit, Nat.zero_add] at hcc
    exact hcc
  obtain ⟨i0, hi0, hz0, hz1, hz2⟩ := info_parts infoE
  have H1 := Lib.hid h1
  have H4 := Lib.hid h4
  have H5 := Lib.hid h5
  have H3 := Lib.hid h3
  have hni : ¬ (sc = i) := by omega
  have htn : ((i : Int) + (q : Int)).toNat = i + q := by omega
  clear h1 h3 h4 h5
  go_enter Try.func23, Try.ntmps23
  go_wp2_with (first
    | (go_at_call 30; refine (has_any base p r n xs i _ H).mono ?_; rintro e w' ⟨rfl, rfl⟩)
    | (at_builtin; go_must (refine append_srcv _ rfl _ _ 27 rfl w.heap.size E i0 (.agg #[.int .i64 0, .int .i64 0]) 2 16 underS hi0 hz0 hz1 hz2 rfl (by decide) _ 0 [] rfl (World.ownsRow_nil w w.heap.size E 2) (.slice (some ⟨g, i * 2, none⟩) q (sc - i)) q ((xs.drop (i * 2)).take (q * 2)) rfl hsrc (by simp only [maxLen]; omega) (by omega) (Nat.le_refl _) ?_)
       intro b' c' w1 hown hgr hnr
       simp only [Nat.zero_add, List.nil_append] at hown
       have hfr : Fr (fun _ => False) w w1 := (Fr.refl _ w).grown hgr (by intro k hk; simp [Value.ownBlock, Act.eval] at hk)
       clear hgr hnr
       have hc1 := hfr.cell hc (by simp)
       have hdel := sdel base g n sc i (i + q) xs w1 (ownsRow_fr H3.out hfr (by simp)) h1x (by omega) (by omega) hn
       have HF := Lib.hid hfr
       have HW := Lib.hid hown
       have hb1 := (hfr.block p hp (by simp)).trans H1.out
       have HB1 := Lib.hid hb1
       have hsz := hfr.size
       clear hfr hown hb1)
    | (go_at_call 31; refine hdel.mono ?_; rintro e w2 ⟨rfl, hown2, hg2⟩
       have hb2 := (hg2.block p (by omega) (by rw [show some g = r from H4.out]; exact fun e => H5.out e.symm)).trans HB1.out
       have hc2 := cell_of_row w2 p 0 _ _ _ hb2
       have hf2 : w2.frozen? ⟨p, 0, none⟩ = false := frozen_of_row w2 p 0 _ _ hb2
       simp at hc2
       have HB2 := Lib.hid hb2
       have HW2 := Lib.hid hown2
       have HG2 := Lib.hid hg2
       clear hb2 hown2 hg2 hdel))
  go_ret
  have hA : Fr (fun b => b = g) w1 w2 := ⟨HG2.out.os, HG2.out.tape, HG2.out.output, HG2.out.size, fun k hk hn => HG2.out.block k hk (by simpa using hn)⟩
  have hB : Fr (fun b => b = p) w2 (w2.setCell ⟨p, 0, none⟩ (.slice (some ⟨g, 0, none⟩) (n - q) sc)) := Fr.setCell (S := fun b => b = p) (Fr.refl _ _) (fun _ => rfl) _
  have hgp : g ≠ p := fun e => H5.out (by rw [← H4.out, e]; rfl)
  have hW2 := HW2.out
  rw [show i + q - i = q by omega] at hW2
  refine ⟨b', c', rfl, ?_, ⟨some ⟨g, 0, none⟩, sc, ?_, h2, ?_, H4.out, H5.out⟩, ?_⟩
  · exact ownsRow_fr (ownsRow_fr HW.out hA (fun k hk => by have := HW.out.lt k hk; omega)) hB (fun k hk => by have := HW.out.lt k hk; omega)
  · have := heap_setCell_same w2 p 0 _ _ (.slice (some ⟨g, 0, none⟩) (n - q) sc) HB2.out
    simpa using this
  · exact ownsRow_fr hW2 hB (fun k hk => by simp [Value.ownBlock] at hk; omega)
  · have h1 : Fr (fun b => b = p ∨ r = some b) w w1 := HF.out.mono (fun _ _ h => h.elim)
    have h2 : Fr (fun b => b = p ∨ r = some b) w1 w2 := hA.mono (fun k _ h => .inr (by rw [← H4.out, h]; rfl))
    exact (h1.trans h2).trans (hB.mono (fun k _ h => .inl h))

end Go.Proofs.Ytfclclnlmhbgiaa.VecQ
