/-
  Is a place a byte's (or an empty line's column 0): the package's inside.
-/
import Derived.Test.YtfcedllgidhnfaaOi
set_option linter.unusedVariables false
set_option linter.unusedSimpArgs false
set_option maxRecDepth 100000
namespace Go.Proofs.Ytfcedllgidhnfaa.Wo
open Go Go.RowKit Go.Proofs.Ytfcedllgidhnfaa.Vk Go.Proofs.Ytfcedllgidhnfaa.Str Go.Proofs.Ytfcedllgidhnfaa.Ln Go.Proofs.Ytfcedllgidhnfaa.Cl Go.Proofs.Ytfcedllgidhnfaa.Mv
attribute [local go_sem] Oper.semAt_some

set_option maxHeartbeats 2000000 in
theorem inside_any (a : Option Addr) (n c' : Nat) (ls : List ByteArray) (l c : Int) (w : World) (h : Ss w a n c' ls) (hs : ∀ s ∈ ls, s.size ≤ 140737488355328) :
    Calls Try.prog 25 #[.slice a n c', .agg #[.int .i64 l, .int .i64 c]] w fun e w' => e = .returned (.bool (decide (On ls l c))) ∧ Below w.heap.size w w' := by
  have hlen := h.length
  obtain ⟨X, hX⟩ : ∃ X, X = w.alloc (.cells #[.int .i64 l, .int .i64 c] 34) := ⟨_, rfl⟩
  have hp : PosAt X w.heap.size l c := by rw [hX]; exact PosAt.new _ _ _
  have hb : Below w.heap.size w X := by rw [hX]; exact (Below.refl _ w).alloc (Nat.le_refl _) _
  have f0 := fun z : Gr X => z.cell hp.c0
  have f1 := fun z : Gr X => z.cell hp.c1
  have HX := Lib.hid hX
  by_cases h0 : 0 < n
  · have hv := on_clamp (ls := ls) (l := l) (c := c) (by omega)
    have he := fun W => Mv.eq_pos (clL ls l) (clC ls l c false) l c W
    rw [hv] at he
    have hcl := fun z : Gr X => clamp_any a n c' ls l c false z.W (SrcV.below h (hb.trans (z.below.mono hb.size))) hs
    generalize (clL ls l : Int) = P at *
    generalize (clC ls l c false : Int) = Q at *
    have b0 : decide (0 < n) = true := decide_eq_true h0
    have b1 : decide ((0 : Int) < (n : Int)) = true := decide_eq_true (by omega)
    generalize decide (On ls l c) = B at *
    clear hv hX hp h
    go_enter Try.func25, Try.ntmps25
    go_upto_region 1 with fail
    rw [← HX.out]
    refine wp_region_grow (by kernel_rfl) (by kernel_rfl) ?_
    repeat (go_big_quiet_step (first | (go_at_call 29; exact Calls.grow_of (hcl _))))
    refine wpQuiet_nil ?_
    rintro V ⟨⟨_, hbV⟩, rfl⟩
    clear f0 f1 hcl he
    go_wp2
    go_ret
    exact ⟨rfl, hb.trans (hbV.mono hb.size)⟩
  · have hv : decide (On ls l c) = false := decide_eq_false (fun h => by have := h.1; have := h.2.1; omega)
    rw [hv]
    have b0 : decide (0 < n) = false := decide_eq_false h0
    have b1 : decide ((0 : Int) < (n : Int)) = false := decide_eq_false (by omega)
    clear hX hp h hv
    go_enter Try.func25, Try.ntmps25
    go_upto_region 1 with fail
    rw [← HX.out]
    refine wp_region_grow (by kernel_rfl) (by kernel_rfl) ?_
    repeat (go_big_quiet_step (fail))
    refine wpQuiet_nil ?_
    rintro V ⟨⟨_, hbV⟩, rfl⟩
    clear f0 f1
    go_wp2
    go_ret
    exact ⟨rfl, hb.trans (hbV.mono hb.size)⟩

end Go.Proofs.Ytfcedllgidhnfaa.Wo
