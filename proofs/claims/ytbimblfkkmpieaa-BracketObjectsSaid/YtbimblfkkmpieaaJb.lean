/-
  Package pair: inside, bracket.
-/
import Derived.Test.YtbimblfkkmpieaaJs
import Derived.Test.YtbimblfkkmpieaaZb
set_option linter.unusedVariables false
set_option linter.unusedSimpArgs false
set_option maxRecDepth 100000
namespace Go.Proofs.Ytbimblfkkmpieaa.Pr
open Go Go.RowKit Go.Proofs.Ytbimblfkkmpieaa.Vk Go.Proofs.Ytbimblfkkmpieaa.Str Go.Proofs.Ytbimblfkkmpieaa.Ln Go.Proofs.Ytbimblfkkmpieaa.Cl Go.Proofs.Ytbimblfkkmpieaa.Mv Go.Proofs.Ytbimblfkkmpieaa.Wd Go.Shelf
attribute [local go_sem] Oper.semAt_some

theorem inside_any (a : Option Addr) (n c' : Nat) (ls : List ByteArray) (l c : Int) (w : World) (h : Ss w a n c' ls) (hs : ∀ s ∈ ls, s.size ≤ 140737488355328) :
    Calls Try.prog 31 #[.slice a n c', .agg #[.int .i64 l, .int .i64 c]] w fun e w' => e = .returned (.bool (decide (Plc ls l c))) ∧ Below w.heap.size w w' := by
  have hlen := h.length
  obtain ⟨X, hX⟩ : ∃ X, X = w.alloc (.cells #[.int .i64 l, .int .i64 c] 24) := ⟨_, rfl⟩
  have hb0 : Below w.heap.size w X := by rw [hX]; exact (Below.refl _ w).alloc (Nat.le_refl _) _
  have hp : PosAt X w.heap.size l c := by rw [hX]; exact PosAt.new w l c
  have HX := Lib.hid hX
  have HB := Lib.hid hb0
  by_cases h0 : 0 < n
  · have f0 := fun z : Gr X => z.cell hp.c0
    have f1 := fun z : Gr X => z.cell hp.c1
    have hx := SrcV.below h hb0
    have h5 := fun z : Gr X => clamp_any a n c' ls l c true z.W (SrcV.below hx z.below) hs
    have he := fun W => eq_pos (clL ls l) (clC ls l c true) l c W
    have d0 : decide (0 < n) = true := decide_eq_true h0
    rw [← plc_cl (by omega)]
    clear h hx hX hb0 hs hp hlen
    go_enter Try.func31, Try.ntmps31
    go_wp2
    rw [← HX.out]
    refine wp_region_grow (by kernel_rfl) (by kernel_rfl) ?_
    repeat (go_big_quiet_step (first | (go_at_call 36; exact Calls.grow_of (h5 _))))
    refine wpQuiet_nil ?_
    rintro _ ⟨⟨X5, hX5⟩, rfl⟩
    go_wp2
    go_ret
    exact ⟨rfl, HB.out.trans (hX5.mono HB.out.size)⟩
  · obtain rfl : n = 0 := by omega
    have hd : decide (Plc ls l c) = false := decide_eq_false fun hp => by have := hp.1; have := hp.2.1; omega
    rw [hd]
    clear h hX hb0 hs hp hlen hd
    go_enter Try.func31, Try.ntmps31
    go_wp2
    rw [← HX.out]
    refine wp_region_grow (by kernel_rfl) (by kernel_rfl) ?_
    repeat (go_big_quiet_step (fail))
    refine wpQuiet_nil ?_
    rintro _ ⟨⟨X5, hX5⟩, rfl⟩
    go_wp2
    go_ret
    exact ⟨rfl, HB.out.trans (hX5.mono HB.out.size)⟩

/-- What bracket answers. -/
def brV (ls : List ByteArray) (i k : Nat) : Option P2 := (fbr (lineAt ls i) k).map fun j => (i, j)
def oV : Option P2 → P2 × Bool
  | some q => (q, true)
  | none => ((0, 0), false)
end Go.Proofs.Ytbimblfkkmpieaa.Pr
