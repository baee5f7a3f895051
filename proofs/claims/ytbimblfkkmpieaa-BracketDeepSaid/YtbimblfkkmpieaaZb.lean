/-
  Package words: its helps that need no iterator.
-/
import Derived.Test.YtbimblfkkmpieaaZl
import Derived.Test.YtbimblfkkmpieaaQt
set_option linter.unusedVariables false
set_option linter.unusedSimpArgs false
set_option maxRecDepth 100000
namespace Go.Proofs.Ytbimblfkkmpieaa.Wd
open Go Go.RowKit Go.Proofs.Ytbimblfkkmpieaa.Vk Go.Proofs.Ytbimblfkkmpieaa.Str Go.Proofs.Ytbimblfkkmpieaa.Ln Go.Proofs.Ytbimblfkkmpieaa.Cl Go.Proofs.Ytbimblfkkmpieaa.Mv
attribute [local go_sem] Oper.semAt_some

theorem plc_cl {ls : List ByteArray} {l c : Int} (h : 0 < ls.length) : (decide ((clL ls l : Int) = l) && decide ((clC ls l c true : Int) = c)) = decide (Plc ls l c) := by
  rw [Bool.eq_iff_iff]
  simp only [Bool.and_eq_true, decide_eq_true_eq]
  unfold clC clL Plc top
  rw [if_pos rfl]
  have hl := cl_lt l h
  constructor
  · rintro ⟨h1, h2⟩
    have e : cl ls.length l = l.toNat := by omega
    rw [e] at h2
    generalize (lineAt ls l.toNat).size = z at *
    unfold cl at h2
    omega
  · rintro ⟨h1, h2, h3, h4⟩
    have e : cl ls.length l = l.toNat := by unfold cl; omega
    rw [e]
    generalize (lineAt ls l.toNat).size = z at *
    unfold cl
    omega

end Go.Proofs.Ytbimblfkkmpieaa.Wd
