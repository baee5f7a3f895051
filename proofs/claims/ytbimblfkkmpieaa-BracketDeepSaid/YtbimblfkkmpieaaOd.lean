/-
  The document's runs (Runs), the one that has a column (find); char, in.
-/
import Derived.Test.YtbimblfkkmpieaaOk
set_option linter.unusedVariables false
set_option linter.unusedSimpArgs false
set_option maxRecDepth 100000
namespace Go.Proofs.Ytbimblfkkmpieaa.Wo
open Go Go.RowKit Go.Proofs.Ytbimblfkkmpieaa.Vk Go.Proofs.Ytbimblfkkmpieaa.Str Go.Proofs.Ytbimblfkkmpieaa.Ln Go.Proofs.Ytbimblfkkmpieaa.Cl Go.Proofs.Ytbimblfkkmpieaa.Mv
attribute [local go_sem] Oper.semAt_some

theorem char_any (l c m d : Int) (w : World) : Calls Try.prog 19 #[.agg #[.int .i64 l, .int .i64 c], .agg #[.int .i64 m, .int .i64 d]] w fun e w' => e = .returned (.tuple #[rgv 0 l c m d, .bool true]) ∧ Below w.heap.size w w' := by
  obtain ⟨X, hX⟩ : ∃ X, X = ((w.alloc (.cells #[.int .i64 l, .int .i64 c] 24)).alloc (.cells #[.int .i64 m, .int .i64 d] 24)).alloc (.cells #[.int .i64 0, .int .i64 0, .int .i64 0, .int .i64 0, .int .i64 0] 33) := ⟨_, rfl⟩
  obtain ⟨h1, h2, h3, h4, h5⟩ := three_rows w (.cells #[.int .i64 l, .int .i64 c] 24) (.cells #[.int .i64 m, .int .i64 d] 24) (.cells #[.int .i64 0, .int .i64 0, .int .i64 0, .int .i64 0, .int .i64 0] 33)
  rw [← hX] at h1 h2 h3 h4 h5
  have hp : PosAt X w.heap.size l c := h2
  have hq : PosAt X (w.heap.size + 1) m d := h3
  have hr : RgAt X (w.heap.size + 2) 0 0 0 0 0 := h4
  have p0 := hp.c0
  have p1 := hp.c1
  have q0 := hq.c0
  have q1 := hq.c1
  have r0 := hr.c0
  have r1 := hr.c1
  have r2 := hr.c2
  have r3 := hr.c3
  have r4 := hr.c4
  have z := hr.z
  have HX := Lib.hid hX
  have HE := Lib.hid (And.intro (hr.put 0 l c m d) (putR_below h5 (g := w.heap.size + 2) (by omega) 0 l c m d))
  clear hX h1 h2 h3 h4 h5 hp hq hr
  go_enter Try.func19, Try.ntmps19
  go_upto_region 1 with fail
  rw [← HX.out]
  go_wp2
  exact ret_rb (g := w.heap.size + 2) rfl rfl rfl rfl HE.out.1 ⟨rfl, HE.out.2⟩

end Go.Proofs.Ytbimblfkkmpieaa.Wo
