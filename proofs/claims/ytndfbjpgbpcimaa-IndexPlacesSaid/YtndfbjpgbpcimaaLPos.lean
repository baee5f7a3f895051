/-
  A position that came in.
-/
import Derived.Test.YtndfbjpgbpcimaaLRel
import Derived.WalkKit
import Derived.ProofKit
import Derived.OpenShut
import Derived.ChangeOld
import Derived.ChangeSame
set_option linter.unusedVariables false
namespace Go.Proofs.Ytndfbjpgbpcimaa.Pos
open Go Go.RowKit Go.Proofs.Ytndfbjpgbpcimaa.Vk Go.ChangeShapes Go.WideShapes Go.ChangeAt

theorem open_pos {H : Type} {enc : TypeId × Value → H} {W : World} {base b0 : Nat} {sp : Nat → Bool} {held : Bool} {r : Reach} {v : Value} {d : DataW H} {ps : List MemPlace}
    (hval : Value.okWide Try.prog W r b0 33 v) (hd : DataW.Trod enc Try.prog W base sp held 33 v d ps) :
    ∃ a b : Int, v = .agg #[.int .i64 a, .int .i64 b] ∧ d = .agg [.lit (.int .i64 a), .lit (.int .i64 b)] ∧ ps = [] ∧ (Lit.int .i64 a).wf = true ∧ (Lit.int .i64 b).wf = true := by
  obtain ⟨cs, rfl, hcs⟩ := okWide_struct Try.underlying33 hval
  have h2 : Try.prog.cellsOf 33 = 2 := by kernel_rfl
  have k1 : Try.prog.cellsOf 3 = 1 := by kernel_rfl
  rw [h2] at hcs
  obtain ⟨l⟩ := cs
  match l, hcs with
  | [c0, c1], _ =>
  obtain ⟨fuel, hf⟩ := hd
  obtain ⟨y0, y1, n, hx, _, h0, h1⟩ := trod_struct2 Try.underlying33 hf
  have h0' : DataW.trod enc Try.prog W base sp held n 3 [c0] = some y0 := by simpa [k1, Value.cells] using h0
  have h1' : DataW.trod enc Try.prog W base sp held n 3 [c1] = some y1 := by simpa [k1, Value.cells] using h1
  obtain ⟨a, ea, rfl, wa⟩ := DataW.trod_int Try.underlying3 h0'
  obtain ⟨b, eb, rfl, wb⟩ := DataW.trod_int Try.underlying3 h1'
  simp only [List.cons.injEq, and_true] at ea eb
  subst ea eb
  simp only [Prod.mk.injEq] at hx
  exact ⟨a, b, rfl, by rw [hx.1], by rw [hx.2]; rfl, wa, wb⟩

theorem shut_pos {H : Type} {enc : TypeId × Value → H} {W : World} {base : Nat} {sp : Nat → Bool} {held : Bool} {a b : Int} (wa : (Lit.int .i64 a).wf = true) (wb : (Lit.int .i64 b).wf = true) :
    DataW.Trod enc Try.prog W base sp held 33 (.agg #[.int .i64 a, .int .i64 b]) (.agg [.lit (.int .i64 a), .lit (.int .i64 b)]) [] := by
  have h2 : Try.prog.cellsOf 33 = 2 := by kernel_rfl
  have k1 : Try.prog.cellsOf 3 = 1 := by kernel_rfl
  refine ⟨2, ?_⟩
  have g0 : DataW.trod enc Try.prog W base sp held 1 3 [.int .i64 a] = some (.lit (.int .i64 a), []) := trod_int_mk 0 Try.underlying3 wa
  have g1 : DataW.trod enc Try.prog W base sp held 1 3 [.int .i64 b] = some (.lit (.int .i64 b), []) := trod_int_mk 0 Try.underlying3 wb
  have := trod_struct2_mk (enc := enc) (w := W) (base := base) (spare := sp) (held := held) (n := 1) (t := 33) (cs := [.int .i64 a, .int .i64 b]) (y0 := (.lit (.int .i64 a), [])) (y1 := (.lit (.int .i64 b), [])) Try.underlying33 h2.symm (by simpa [k1] using g0) (by simpa [k1] using g1)
  exact this
end Go.Proofs.Ytndfbjpgbpcimaa.Pos
