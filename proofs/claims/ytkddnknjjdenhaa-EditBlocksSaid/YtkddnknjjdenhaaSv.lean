/-
  Package span: Valid.
-/
import Derived.Test.YtkddnknjjdenhaaSo
import Derived.Test.YtkddnknjjdenhaaQg
import Derived.Laws.StructEq
set_option linter.unusedVariables false
set_option linter.unusedSimpArgs false
set_option maxRecDepth 100000
namespace Go.Proofs.Ytkddnknjjdenhaa.So
open Go Go.RowKit Go.Proofs.Ytkddnknjjdenhaa.Vk Go.Proofs.Ytkddnknjjdenhaa.Str Go.Proofs.Ytkddnknjjdenhaa.Ln Go.Proofs.Ytkddnknjjdenhaa.Cl
attribute [local go_sem] Oper.semAt_some

/-- Two places are held against one another. -/
theorem eq_pos (a b c d : Int) (w : World) : (binOp .eql 24 (.agg #[.int .i64 a, .int .i64 b]) (.agg #[.int .i64 c, .int .i64 d])).run Try.prog w = .ok (.bool (decide (a = c) && decide (b = d))) w := by
  have hS : Try.prog.underlying 24 = some (.struct (Try.prog.fieldsOf 24)) := by kernel_rfl
  have hp : Try.prog.stoodInHeld 24 = false := by kernel_rfl
  rw [run_eql_struct, show (10000 : Nat) = 9999 + 1 from rfl, run_equalIn_agg w 9999 24 _ _ hS hp]
  simp only [Program.fieldsOf, Try.underlying24]
  go_simp
  by_cases h1 : a = c <;> by_cases h2 : b = d <;> simp [h1, h2]

/-- Is the place in the text, or behind a line's last byte? -/
def ins (ls : List ByteArray) (l c : Int) : Bool := decide ((clL ls l : Int) = l) && decide ((clC ls l c true : Int) = c)

theorem inside_any (a : Option Addr) (n c' : Nat) (ls : List ByteArray) (l c : Int) (w : World) (h : Ss w a n c' ls) (hs : ∀ s ∈ ls, s.size ≤ 140737488355328) :
    Calls Try.prog 63 #[.slice a n c', .agg #[.int .i64 l, .int .i64 c]] w fun e w' => e = .returned (.bool (ins ls l c)) ∧ Below w.heap.size w w' := by
  obtain ⟨X, hX⟩ : ∃ X, X = w.alloc (.cells #[.int .i64 l, .int .i64 c] 24) := ⟨_, rfl⟩
  have hb0 : Below w.heap.size w X := by rw [hX]; exact (Below.refl _ w).alloc (Nat.le_refl _) _
  have q0 : X.cell? ⟨w.heap.size, 0, none⟩ = some (.int .i64 l) := by rw [hX, World.cell?_alloc_at (hn := by simp)]; rfl
  have q1 : X.cell? ⟨w.heap.size, 1, none⟩ = some (.int .i64 c) := by rw [hX, World.cell?_alloc_at (hn := by simp)]; rfl
  have f0 := fun z : Gr X => z.cell q0
  have f1 := fun z : Gr X => z.cell q1
  have hx := SrcV.below h hb0
  have h5 := fun z : Gr X => clamp_any a n c' ls l c true z.W (SrcV.below hx z.below) hs
  have he := fun W => eq_pos (clL ls l) (clC ls l c true) l c W
  have HX := Lib.hid hX
  have HB := Lib.hid hb0
  clear h hx q0 q1 hX hb0 hs
  go_enter Try.func63, Try.ntmps63
  go_wp2
  rw [← HX.out]
  refine wp_region_grow (by kernel_rfl) (by kernel_rfl) ?_
  repeat (go_big_quiet_step (first | (go_at_call 52; exact Calls.grow_of (h5 _))))
  refine wpQuiet_nil ?_
  rintro _ ⟨⟨X5, hX5⟩, rfl⟩
  go_wp2
  go_ret
  exact ⟨rfl, HB.out.trans (hX5.mono HB.out.size)⟩

def rng (k fl fc tl tc : Int) : Value := .agg #[.int .i64 k, .int .i64 fl, .int .i64 fc, .int .i64 tl, .int .i64 tc]
/-- What Valid asks. -/
def vld (ls : List ByteArray) (k fl fc tl tc : Int) : Bool :=
  decide (0 ≤ fl ∧ fl ≤ tl ∧ tl < ls.length) && (if k = 0 then ins ls fl fc && (ins ls tl tc && !lt tl tc fl fc) else if k = 1 then true else if k = 2 then decide (0 ≤ fc ∧ fc ≤ tc) else false)

set_option maxHeartbeats 2000000 in
theorem valid_any (a : Option Addr) (n c' : Nat) (ls : List ByteArray) (k fl fc tl tc : Int) (w : World) (h : Ss w a n c' ls) (hs : ∀ s ∈ ls, s.size ≤ 140737488355328) :
    Calls Try.prog 47 #[.slice a n c', .agg #[.int .i64 k, .int .i64 fl, .int .i64 fc, .int .i64 tl, .int .i64 tc]] w fun e w' => e = .returned (.bool (vld ls k fl fc tl tc)) ∧ Below w.heap.size w w' := by
  have hlen := h.length
  obtain ⟨X, hX⟩ : ∃ X, X = w.alloc (.cells #[.int .i64 k, .int .i64 fl, .int .i64 fc, .int .i64 tl, .int .i64 tc] 48) := ⟨_, rfl⟩
  have hb0 : Below w.heap.size w X := by rw [hX]; exact (Below.refl _ w).alloc (Nat.le_refl _) _
  by_cases hv : 0 ≤ fl ∧ fl ≤ tl ∧ tl < n
  · have hv1 : decide (0 ≤ fl ∧ fl ≤ tl ∧ tl < ls.length) = true := by rw [hlen]; exact decide_eq_true hv
    obtain ⟨v1, v2, v3⟩ := hv
    by_cases k0 : k = 0
    · subst k0
      have q0 : X.cell? ⟨w.heap.size, 1, none⟩ = some (.int .i64 fl) := by rw [hX, World.cell?_alloc_at (hn := by simp)]; rfl
      have q1 : X.cell? ⟨w.heap.size, 2, none⟩ = some (.int .i64 fc) := by rw [hX, World.cell?_alloc_at (hn := by simp)]; rfl
      have q2 : X.cell? ⟨w.heap.size, 3, none⟩ = some (.int .i64 tl) := by rw [hX, World.cell?_alloc_at (hn := by simp)]; rfl
      have q3 : X.cell? ⟨w.heap.size, 4, none⟩ = some (.int .i64 tc) := by rw [hX, World.cell?_alloc_at (hn := by simp)]; rfl
      have i1 := fun W (hW : Below X.heap.size X W) => inside_any a n c' ls fl fc W (SrcV.below (SrcV.below h hb0) hW) hs
      have i2 := fun W (hW : Below X.heap.size X W) => inside_any a n c' ls tl tc W (SrcV.below (SrcV.below h hb0) hW) hs
      have i3 := fun W => less_any tl tc fl fc W
      have hd : vld ls 0 fl fc tl tc = (ins ls fl fc && (ins ls tl tc && !lt tl tc fl fc)) := by unfold vld; rw [hv1, if_pos rfl, Bool.true_and]
      rw [hd]
      generalize ins ls fl fc = p1 at *
      generalize ins ls tl tc = p2 at *
      generalize lt tl tc fl fc = p3 at *
      have HX := Lib.hid hX
      have HB := Lib.hid hb0
      have HQ := Lib.hid (And.intro q0 (And.intro q1 (And.intro q2 q3)))
      clear h q0 q1 q2 q3 hX hb0 hs hv1 hlen hd
      go_enter Try.func47, Try.ntmps47
      go_wp2_with fail
      rw [← HX.out]
      refine (i1 X (Below.refl _ X)).mono ?_
      rintro e w1 ⟨rfl, hb1⟩
      clear i1
      cases p1
      · go_wp2
        go_ret
        exact ⟨rfl, HB.out.trans (hb1.mono HB.out.size)⟩
      obtain ⟨q0, q1, q2, q3⟩ := HQ.out
      have q0 := cell_later hb1 q0
      have q1 := cell_later hb1 q1
      have q2 := cell_later hb1 q2
      have q3 := cell_later hb1 q3
      have j2 := i2 w1 hb1
      have HB1 := Lib.hid hb1
      clear i2 hb1
      go_wp2_with fail
      refine j2.mono ?_
      rintro e w2 ⟨rfl, hb2⟩
      have hb12 := HB1.out.trans (hb2.mono HB1.out.size)
      clear j2
      cases p2
      · go_wp2
        go_ret
        exact ⟨rfl, HB.out.trans (hb12.mono HB.out.size)⟩
      have q0 := cell_later hb2 q0
      have q1 := cell_later hb2 q1
      have q2 := cell_later hb2 q2
      have q3 := cell_later hb2 q3
      have j3 := i3 w2
      have HB2 := Lib.hid hb12
      clear i3 hb2 hb12
      go_wp2_with fail
      refine j3.mono ?_
      rintro e w3 ⟨rfl, hb3⟩
      have hb := HB2.out.trans (hb3.mono HB2.out.size)
      clear j3
      go_wp2
      go_ret
      exact ⟨rfl, HB.out.trans (hb.mono HB.out.size)⟩
    · have hd : vld ls k fl fc tl tc = (if k = 1 then true else if k = 2 then decide (0 ≤ fc ∧ fc ≤ tc) else false) := by unfold vld; rw [hv1, if_neg k0, Bool.true_and]
      rw [hd]
      have HX := Lib.hid hX
      have HB := Lib.hid hb0
      clear h hX hb0 hs hv1 hlen hd
      by_cases k1 : k = 1
      · subst k1
        go_enter Try.func47, Try.ntmps47
        go_wp2
        go_ret
        exact ⟨rfl, by rw [← HX.out]; exact HB.out⟩
      by_cases k2 : k = 2
      · subst k2
        go_enter Try.func47, Try.ntmps47
        go_wp2
        all_goals go_ret
        all_goals refine ⟨ret_bool ?_, by rw [← HX.out]; exact HB.out⟩
        all_goals first | rfl | (symm; simp only [Bool.and_eq_false_iff, decide_eq_false_iff_not]; omega)
      · go_enter Try.func47, Try.ntmps47
        go_wp2
        go_ret
        exact ⟨rfl, by rw [← HX.out]; exact HB.out⟩
  · have hd : vld ls k fl fc tl tc = false := by unfold vld; rw [hlen, decide_eq_false hv, Bool.false_and]
    rw [hd]
    have HX := Lib.hid hX
    have HB := Lib.hid hb0
    have hv2 : fl < 0 ∨ (0 ≤ fl ∧ tl < fl) ∨ (0 ≤ fl ∧ fl ≤ tl ∧ (n : Int) ≤ tl) := by omega
    clear h hX hb0 hs hlen hd hv
    rcases hv2 with v | ⟨v, v2⟩ | ⟨v, v2, v3⟩
    · go_enter Try.func47, Try.ntmps47
      go_wp2
      go_ret
      exact ⟨rfl, by rw [← HX.out]; exact HB.out⟩
    · go_enter Try.func47, Try.ntmps47
      go_wp2
      go_ret
      exact ⟨rfl, by rw [← HX.out]; exact HB.out⟩
    · go_enter Try.func47, Try.ntmps47
      go_wp2
      go_ret
      exact ⟨rfl, by rw [← HX.out]; exact HB.out⟩

end Go.Proofs.Ytkddnknjjdenhaa.So
