/-
  Motions of whatever layer: the two variables that each makes at its beginning; two motions held against one another; a place's variable made and written in a drawn region. (The same as in the texts of layer 7, on their own.)
-/
import Derived.Test.YtnngcminomooeaaMv
import Derived.Test.YtnngcminomooeaaMo
import Derived.Test.YtnngcminomooeaaSo
import Derived.Test.YtnngcminomooeaaQf
set_option linter.unusedVariables false
set_option linter.unusedSimpArgs false
set_option maxRecDepth 100000
namespace Go.Proofs.Ytnngcminomooeaa.Mv
open Go Go.RowKit Go.Proofs.Ytnngcminomooeaa.Vk Go.Proofs.Ytnngcminomooeaa.Str Go.Proofs.Ytnngcminomooeaa.Ln Go.Proofs.Ytnngcminomooeaa.Cl
attribute [local go_sem] Oper.semAt_some

/-- A place's variable, made and written. -/
theorem run_pos (W : World) : (do let v ← Instr.alloc 36 true (.tuple #[]); pure (Next.value v) : Sem Next).run Try.prog W = .ok (.value (.pointer (some ⟨W.heap.size, 0, none⟩))) (W.alloc (.cells #[.int .i64 0, .int .i64 0] 36)) := by
  go_simp
theorem run_store_pos {W : World} {g : Nat} {l c l' c' : Int} (h : PosAt W g l c) :
    (do Instr.storeAt 36 (.pointer (some ⟨g, 0, none⟩)) (.agg #[.int .i64 l', .int .i64 c']); pure Next.skip : Sem Next).run Try.prog W = .ok .skip ((W.setCell ⟨g, 0, none⟩ (.int .i64 l')).setCell ⟨g, 1, none⟩ (.int .i64 c')) := by
  have m0 := h.c0
  have m1 := h.c1
  have z := fun k => frozen_of_row W g k _ _ h
  go_simp
end Go.Proofs.Ytnngcminomooeaa.Mv
