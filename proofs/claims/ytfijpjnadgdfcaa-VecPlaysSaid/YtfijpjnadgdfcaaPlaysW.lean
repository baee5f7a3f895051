/-
  The law VecPlays, walked whole.
-/
import Derived.Test.YtfijpjnadgdfcaaPlays
set_option linter.unusedVariables false
namespace Go.Proofs.Ytfijpjnadgdfcaa.Plays
open Go Go.RowKit Go.Proofs.Ytfijpjnadgdfcaa.Vk Go.Proofs.Ytfijpjnadgdfcaa.Acts

theorem walk (lb : Option Addr) (n lc : Nat) (zs : List Int) (mb : Option Addr) (m mc : Nat) (ls : List ActD) (w : World) (hl : SrcV w 1 (.slice lb n lc) n (zs.map (.int .i64))) (hz : ∀ z ∈ zs, (Lit.int .i64 z).wf = true) (hm : Script w mb m mc ls) :
    Calls Try.prog 3 #[.slice lb n lc, .slice mb m mc] w fun e w' => e = .returned (.bool true) ∧ Below w.heap.size w w' := by
  by_cases h : 50 < n ∨ 40 < m
  · have h1 := hl.2.2.1
    have h2 := hm.1
    have h3 := hm.2.1
    unfold maxLen at h1 h3
    exact long lb n lc mb m mc w (by omega) (by omega) h
  · exact short lb n lc zs mb m mc ls w hl hm (by omega) (by omega)

end Go.Proofs.Ytfijpjnadgdfcaa.Plays
