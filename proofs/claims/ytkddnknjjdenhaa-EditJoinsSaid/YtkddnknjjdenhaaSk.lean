/-
  The chapter's example (the help `known` of layer 6's laws).
-/
import Derived.Test.YtkddnknjjdenhaaSt
set_option linter.unusedVariables false
set_option linter.unusedSimpArgs false
set_option maxRecDepth 100000
namespace Go.Proofs.Ytkddnknjjdenhaa.So
open Go Go.RowKit Go.Proofs.Ytkddnknjjdenhaa.Vk Go.Proofs.Ytkddnknjjdenhaa.Str Go.Proofs.Ytkddnknjjdenhaa.Ln Go.Proofs.Ytkddnknjjdenhaa.Cl
attribute [local go_sem] Oper.semAt_some

abbrev exl : List ByteArray := [⟨#[97, 98]⟩, ⟨#[99, 100]⟩]
theorem exl_size : ∀ s ∈ exl, s.size ≤ 140737488355328 := by
  intro s hs
  simp only [exl, List.mem_cons, List.not_mem_nil, or_false] at hs
  rcases hs with rfl | rfl <;> decide

theorem cell_two {w : World} {p : Addr} {v : Value} (h : w.cell? p = some v) (O O' : Obj) : ((w.alloc O).alloc O').cell? p = some v :=
  cell_later (((Below.refl _ w).alloc (Nat.le_refl _) O).alloc (by simp) O') h
theorem cell_one {w : World} {p : Addr} {v : Value} (h : w.cell? p = some v) (O : Obj) : (w.alloc O).cell? p = some v :=
  cell_later ((Below.refl _ w).alloc (Nat.le_refl _) O) h

end Go.Proofs.Ytkddnknjjdenhaa.So
