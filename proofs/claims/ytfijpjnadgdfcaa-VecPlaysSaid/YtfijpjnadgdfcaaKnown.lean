/-
  What the law's own example says: it holds in whatever world.
-/
import Derived.Test.YtfijpjnadgdfcaaDelI
set_option linter.unusedVariables false
namespace Go.Proofs.Ytfijpjnadgdfcaa.VecI
open Go Go.RowKit Go.Proofs.Ytfijpjnadgdfcaa.Vk Go.Lib

theorem known_any (w : World) : Calls Try.prog 8 #[] w fun e w' => e = .returned (.bool true) ∧ Below w.heap.size w w' := by
  go_enter Try.func8, Try.ntmps8
  go_wp2_with fail
  refine (new_any _ 2 [.int .i64 1, .int .i64 2] _ (SrcV.lit w #[.int .i64 1, .int .i64 2] _ 2 rfl (by simp [Value.oneCell']) (by simp [maxLen])) (by omega)).mono ?_
  rintro e w1 ⟨p, r, rfl, hv, hb⟩
  have hv := hv.mono (base' := w.heap.size) (by simp)
  have hb := (((Below.refl _ w).alloc (Nat.le_refl _) _).trans (hb.mono (by simp)) : Below w.heap.size w w1)
  have hlt := hv.lt
  have hlr := hv.rowLt
  go_wp2_with fail
  refine (insert_in w.heap.size p r 2 _ 1 _ 1 [.int .i64 9] _ (hv.fr ((Fr.refl (fun _ => False) _).alloc _) (by simp) (by simp)) (by simp [Value.oneCell']) (SrcV.lit w1 #[.int .i64 9] _ 1 rfl (by simp [Value.oneCell']) (by simp [maxLen])) ?_ (by omega) (by omega) (by omega)).mono ?_
  · intro _ j hj h; simp [blk] at hj; have := hlr _ h; omega
  rintro e w2 ⟨rfl, r2, hv2, hf2, hr2⟩
  have hL : ([Value.int .i64 1, .int .i64 2].take 1 ++ [Value.int .i64 9] ++ [Value.int .i64 1, .int .i64 2].drop 1) = [.int .i64 1, .int .i64 9, .int .i64 2] := rfl
  rw [hL] at hv2
  clear hL
  have hb2 := (hb.alloc hb.size (.cells #[.int .i64 9] 3)).trans (hf2.below (B := w.heap.size) (by have := hb.size; simp; omega) (by intro k hk; rcases hk with rfl | hk; exact hlt.1; exact (hlr _ hk).1))
  clear hf2 hv hr2
  go_wp2_with fail
  refine (insert_out w.heap.size p r2 3 _ 9 _ _ (hv2.fr ((Fr.refl (fun _ => False) _).alloc _) (by simp) (by simp)) (by omega)).mono ?_
  rintro e w' ⟨rfl, rfl⟩
  have hv3 := hv2.fr ((Fr.refl (fun _ => False) _).alloc (.cells #[.int .i64 1] 3)) (by simp) (by simp)
  have hb3 := hb2.alloc hb2.size (.cells #[.int .i64 1] 3)
  have h1c : ∀ u ∈ [Value.int .i64 1, .int .i64 9, .int .i64 2], u.oneCell' = true := by simp [Value.oneCell']
  go_wp2_with fail
  refine (at_in w.heap.size p r2 3 _ 1 9 _ hv3 (by omega) (by omega) rfl).mono ?_
  rintro e w' ⟨rfl, rfl⟩
  go_wp2_with fail
  refine (delete_in w.heap.size p r2 3 _ 0 1 1 _ hv3 h1c (by omega) (by omega) (by omega) (by omega) (by omega)).mono ?_
  rintro e w4 ⟨b', c', rfl, hd, hv4, hf4⟩
  have hb4 := hb3.trans (hf4.below (B := w.heap.size) hb3.size (by intro k hk; rcases hk with rfl | hk; exact hlt.1; exact (hv3.rowLt _ hk).1))
  obtain ⟨g, rfl⟩ : ∃ g, b' = some ⟨g, 0, none⟩ := by
    rcases hd.2 with ⟨h, h0⟩ | ⟨g, cap, cur, h, _⟩
    · omega
    · simp only [Value.slice.injEq] at h; exact ⟨g, h.1⟩
  have hc4 := hd.cellAt 0 (by omega)
  have hc4' : w4.cell? ⟨g, 0, none⟩ = some (.int .i64 1) := hc4
  have hcc : 1 ≤ c' ∧ c' ≤ 9223372036854775807 := by
    rcases hd.2 with ⟨h, h0⟩ | ⟨g, cap, cur, h, _, _, hnc, hm, _⟩
    · omega
    · simp only [Value.slice.injEq] at h; unfold maxLen at hm; omega
  clear hd hc4 hf4 hv2
  go_wp2_with fail
  refine (len_any w.heap.size p r2 2 _ _ hv4).mono ?_
  rintro e w' ⟨rfl, rfl⟩
  go_wp2_with fail
  refine (set_in w.heap.size p r2 2 _ 0 7 _ hv4 (by omega) (by omega)).mono ?_
  rintro e w5 ⟨rfl, hv5, hf5⟩
  have hb5 := hb4.trans (hf5.below (B := w.heap.size) hb4.size (by intro k hk; rcases hk with rfl | hk; exact hlt.1; exact (hv4.rowLt _ hk).1))
  clear hf5
  go_wp2
  go_ret
  exact ⟨rfl, hb5⟩

end Go.Proofs.Ytfijpjnadgdfcaa.VecI
