/-
  Package pair, told by lists: a bracket's bracket's bracket.
-/
import Derived.Test.YtjlchnlebiangaaJt
set_option linter.unusedVariables false
set_option linter.unusedSimpArgs false
set_option maxRecDepth 100000
namespace Go.Proofs.Ytjlchnlebiangaa.Pr
open Go Go.RowKit Go.Proofs.Ytjlchnlebiangaa.Vk Go.Proofs.Ytjlchnlebiangaa.Str Go.Proofs.Ytjlchnlebiangaa.Ln Go.Proofs.Ytjlchnlebiangaa.Cl Go.Proofs.Ytjlchnlebiangaa.Mv Go.Proofs.Ytjlchnlebiangaa.Wd

theorem mtc_some {ls : List ByteArray} {i k : Nat} {q : P2} (h : mtc ls i k = some q) : ∃ j, j < (lineAt ls i).size ∧ kI (bt (lineAt ls i) j) = true ∧ ptn (i, j) (P ls (bt (lineAt ls i) j)) = some q := by
  unfold mtc at h
  cases hf : fbr (lineAt ls i) k with
  | none => rw [hf] at h; cases h
  | some j =>
    rw [hf] at h
    obtain ⟨h1, h2⟩ := fbr_some _ k j (Nat.le_refl _) hf
    exact ⟨j, h1, h2, h⟩
theorem mtc_at {ls : List ByteArray} {i j : Nat} (h1 : j < (lineAt ls i).size) (h2 : kI (bt (lineAt ls i) j) = true) : mtc ls i j = ptn (i, j) (P ls (bt (lineAt ls i) j)) := by
  unfold mtc
  rw [fbr_yes h1 h2]; rfl
theorem P_kind {ls : List ByteArray} {b b' : Nat} (h : kI b = true) (hb : b' = kO b ∨ b' = kS b) : P ls b' = P ls b ∧ kI b' = true := by
  obtain ⟨_, _, _, _, h1, h2, h3, h4, h5, h6⟩ := kI_facts h
  rcases hb with rfl | rfl
  · exact ⟨by unfold P; rw [h3, h4], h1⟩
  · exact ⟨by unfold P; rw [h5, h6], h2⟩
theorem mtc_back {ls : List ByteArray} {i k : Nat} {q : P2} (hi : i < ls.length) (h : mtc ls i k = some q) :
    ∃ j, mtc ls q.1 q.2 = some (i, j) ∧ mtc ls i j = some q ∧ (i, j) ≠ q ∧ Plc ls (q.1 : Int) (q.2 : Int) ∧ Plc ls (i : Int) (j : Int) := by
  obtain ⟨j, h1, h2, h3⟩ := mtc_some h
  obtain ⟨h4, h5, b', h6, h7⟩ := ptn_back (Cs_sorted ls) h3
  obtain ⟨m1, m2, m3⟩ := Cs_mem h7
  simp only at m1 m2 m3
  have hb : bt (lineAt ls q.1) q.2 = kO (bt (lineAt ls i) j) ∨ bt (lineAt ls q.1) q.2 = kS (bt (lineAt ls i) j) := by rw [← m3]; exact h6
  obtain ⟨hP, hI⟩ := P_kind (ls := ls) h2 hb
  refine ⟨j, ?_, by rw [mtc_at h1 h2, h3], fun e => h5 e.symm, ⟨by omega, by omega, by omega, by rw [Int.toNat_natCast]; omega⟩, ⟨by omega, by omega, by omega, by rw [Int.toNat_natCast]; omega⟩⟩
  rw [mtc_at m2 hI, hP]
  exact h4
end Go.Proofs.Ytjlchnlebiangaa.Pr
