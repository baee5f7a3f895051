/-
  A text of zeros.
-/
import Derived.Test.YtgfajagajiofnaaRo
import Derived.Laws.MakeOwn
set_option linter.unusedVariables false
set_option linter.unusedSimpArgs false
set_option maxRecDepth 100000
namespace Go.Proofs.Ytgfajagajiofnaa.Rg
open Go Go.RowKit Go.Proofs.Ytgfajagajiofnaa.Vk Go.Proofs.Ytgfajagajiofnaa.Str Go.Proofs.Ytgfajagajiofnaa.Ln Go.Proofs.Ytgfajagajiofnaa.Cl Go.Proofs.Ytgfajagajiofnaa.Rl
attribute [local go_sem] Oper.semAt_some

/-- A text of so many zeros. -/
def zs (n : Nat) : ByteArray := strN (List.replicate n 0)
theorem zs_size (n : Nat) : (zs n).size = n := by
  unfold zs strN
  rw [strOfNums_size, List.length_map, List.length_replicate]
theorem made_zeros (n : Nat) : (madeCells (Value.int .u8 0).cells (n * 1)).toList = nbs (List.replicate n 0) := by
  refine List.ext_getElem ?_ fun i h1 h2 => ?_
  · simp [size_madeCells, nbs]
  · simp [madeCells, nbs, Value.cells, Nat.mod_one]
theorem mkz (W : World) (n : Nat) (hn : n ≤ 100000) : ∃ w', (Instr.makeSlice 27 (.int .i64 (n : Int)) (.int .i64 (n : Int))).run Try.prog W = .ok (.slice (some ⟨W.heap.size, 0, none⟩) n n) w' ∧ Below W.heap.size W w' ∧ w'.heap.size = W.heap.size + 1 ∧
    ∀ V, Below w'.heap.size w' V → (convert 27 9 (.slice (some ⟨W.heap.size, 0, none⟩) n n)).run Try.prog V = .ok (.string (zs n)) V := by
  obtain ⟨i0, hi0, hz0, hz1, hz2⟩ := info_parts infoU
  have hr := run_makeSlice (P := Try.prog) W 27 TU i0 (.int .u8 0) underU hi0 hz0 .i64 .i64 (n : Int) (n : Int) (by omega) (Int.le_refl _) (by rw [hz1]; omega) (by rw [hz2]; omega) (by omega)
  rw [Int.toNat_natCast, hz1] at hr
  refine ⟨_, hr, one_below _ _, by simp, fun V hV => ?_⟩
  have hs : SrcV (W.alloc (.cells (madeCells (Value.int .u8 0).cells (n * 1)) TU)) 1 (.slice (some ⟨W.heap.size, 0, none⟩) n n) n (nbs (List.replicate n 0)) := by
    have h := SrcV.lit W (madeCells (Value.int .u8 0).cells (n * 1)) TU n (by rw [size_madeCells]; omega) (fun u hu => by rw [made_zeros] at hu; exact nbs_one _ u hu) (by simp only [maxLen]; omega)
    rwa [made_zeros] at h
  exact conv_names (SrcV.below hs hV)
end Go.Proofs.Ytgfajagajiofnaa.Rg
