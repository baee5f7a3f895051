/-
  The law ClassClamps, walked.
-/
import Derived.Test.YtbckfcndkeoogaaCk
import Derived.Test.YtbckfcndkeoogaaQg
set_option linter.unusedVariables false
set_option linter.unusedSimpArgs false
set_option maxRecDepth 100000
namespace Go.Proofs.Ytbckfcndkeoogaa.Cl
open Go Go.RowKit Go.Proofs.Ytbckfcndkeoogaa.Vk Go.Proofs.Ytbckfcndkeoogaa.Str Go.Proofs.Ytbckfcndkeoogaa.Ln
theorem cl_cl (n : Nat) (l : Int) : cl n (cl n l) = cl n l := by unfold cl; omega
theorem clL_clL (ls : List ByteArray) (l : Int) : clL ls (clL ls l) = clL ls l := cl_cl _ _
theorem clC_clC (ls : List ByteArray) (l c : Int) (past : Bool) : clC ls (clL ls l) (clC ls l c past) past = clC ls l c past := by
  unfold clC; rw [clL_clL, cl_cl]
end Go.Proofs.Ytbckfcndkeoogaa.Cl
namespace Go.Proofs.Ytbckfcndkeoogaa.CClamps
open Go Go.RowKit Go.Proofs.Ytbckfcndkeoogaa.Vk Go.Proofs.Ytbckfcndkeoogaa.Str Go.Proofs.Ytbckfcndkeoogaa.Ln Go.Proofs.Ytbckfcndkeoogaa.Cl
attribute [local go_sem] Oper.semAt_some

theorem walk (a : Option Addr) (n c' : Nat) (ls : List ByteArray) (l c : Int) (a_ b_ : Int) (past : Bool) (w : World) (h : Ss w a n c' ls) (hs : ∀ s ∈ ls, s.size ≤ 140737488355328) (_hl : (Lit.int .i64 l).wf = true) (_hc : (Lit.int .i64 c).wf = true) (ha : (Lit.int .u8 a_).wf = true) (hb : (Lit.int .u8 b_).wf = true) :
    Calls Try.prog 4 #[.slice a n c', .agg #[.int .i64 l, .int .i64 c], .int .u8 a_, .int .u8 b_, .bool past] w fun e w' => e = .returned (.bool true) ∧ Below w.heap.size w w' := by
  have hk := known_any (w.alloc (.cells #[.int .i64 l, .int .i64 c] 28))
  have ha2 : 0 ≤ a_ ∧ a_ ≤ 255 := by simpa [Lit.wf, IntKind.min, IntKind.max, IntKind.signed, IntKind.bits] using ha
  have hb2 : 0 ≤ b_ ∧ b_ ≤ 255 := by simpa [Lit.wf, IntKind.min, IntKind.max, IntKind.signed, IntKind.bits] using hb
  have ha3 : 0 ≤ a_.tmod 50 ∧ a_.tmod 50 ≤ 49 := by
    have h1 := Int.tmod_lt_of_pos a_ (b := 50) (by omega)
    have h2 := Int.tmod_nonneg 50 ha2.1
    omega
  have hb3 : 0 ≤ b_.tmod 60 ∧ b_.tmod 60 ≤ 59 := by
    have h1 := Int.tmod_lt_of_pos b_ (b := 60) (by omega)
    have h2 := Int.tmod_nonneg 60 hb2.1
    omega
  have hwa0 : IntKind.u8.wrap (a_.tmod 50) = a_.tmod 50 := by simp [IntKind.wrap, IntKind.bits, IntKind.signed]; omega
  have hwb0 : IntKind.u8.wrap (b_.tmod 60) = b_.tmod 60 := by simp [IntKind.wrap, IntKind.bits, IntKind.signed]; omega
  have hwa1 : IntKind.i64.wrap (a_.tmod 50) = a_.tmod 50 := by rw [IntKind.wrap_i64]; omega
  have hwb1 : IntKind.i64.wrap (b_.tmod 60) = b_.tmod 60 := by rw [IntKind.wrap_i64]; omega
  have hwa2 : IntKind.i64.wrap (a_.tmod 50 - 3) = a_.tmod 50 - 3 := by rw [IntKind.wrap_i64]; omega
  have hwb2 : IntKind.i64.wrap (b_.tmod 60 - 3) = b_.tmod 60 - 3 := by rw [IntKind.wrap_i64]; omega
  go_enter Try.func4, Try.ntmps4
  go_wp2_with fail
  refine hk.mono ?_
  rintro e w1 ⟨rfl, hb1⟩
  have hb01 : Below w.heap.size w w1 := ((Below.refl _ w).alloc (Nat.le_refl _) _).trans (hb1.mono (by simp))
  have hp0 : w1.cell? ⟨w.heap.size, 0, none⟩ = some (.int .i64 l) := cell_later hb1 (by rw [World.cell?_alloc_at (hn := by simp)]; rfl)
  have hp1 : w1.cell? ⟨w.heap.size, 1, none⟩ = some (.int .i64 c) := cell_later hb1 (by rw [World.cell?_alloc_at (hn := by simp)]; rfl)
  have hs1 : Ss w1 a n c' ls := SrcV.below h hb01
  have HB := Lib.hid hb01
  have HS1 := Lib.hid hs1
  have hli := light_any a n c' ls w1 hs1 hs
  clear hk hb1 h hs1 hb01
  go_wp2_with fail
  refine hli.mono ?_
  rintro e w' ⟨q, rfl, rfl, hq⟩
  clear hli
  cases q
  · clear hq
    go_wp2
    go_ret
    exact ⟨rfl, HB.out⟩
  obtain ⟨hn40, htz, _⟩ := hq rfl
  clear hq
  have hsz := HB.out.size
  have hp0' : ∀ O, (w1.alloc O).cell? ⟨w.heap.size, 0, none⟩ = some (.int .i64 l) := fun O => cell_later ((Below.refl _ w1).alloc (Nat.le_refl _) O) hp0
  have hp1' : ∀ O, (w1.alloc O).cell? ⟨w.heap.size, 1, none⟩ = some (.int .i64 c) := fun O => cell_later ((Below.refl _ w1).alloc (Nat.le_refl _) O) hp1
  clear hp0 hp1
  go_wp2_with fail
  generalize a_ % 50 - 3 = na at *
  generalize b_ % 60 - 3 = nb at *
  obtain ⟨W0, hW0⟩ : ∃ W0, W0 = ((w1.alloc (Obj.cells #[.int .i64 na, .int .i64 nb] 28)).alloc (Obj.cells #[.int .i64 l, .int .i64 c, .int .i64 na, .int .i64 nb] 28)) := ⟨_, rfl⟩
  rw [← hW0]
  have g0 : W0.cell? ⟨w1.heap.size + 1, 0, none⟩ = some (.int .i64 l) := by rw [hW0, World.cell?_alloc_at (hn := by simp)]; rfl
  have g1 : W0.cell? ⟨w1.heap.size + 1, 1, none⟩ = some (.int .i64 c) := by rw [hW0, World.cell?_alloc_at (hn := by simp)]; rfl
  have g2 : W0.cell? ⟨w1.heap.size + 1, 2, none⟩ = some (.int .i64 na) := by rw [hW0, World.cell?_alloc_at (hn := by simp)]; rfl
  have g3 : W0.cell? ⟨w1.heap.size + 1, 3, none⟩ = some (.int .i64 nb) := by rw [hW0, World.cell?_alloc_at (hn := by simp)]; rfl
  have hbW0 : Below w.heap.size w W0 := by rw [hW0]; exact (HB.out.alloc hsz _).alloc (by simp; omega) _
  have hb1W : Below w1.heap.size w1 W0 := by rw [hW0]; exact ((Below.refl _ w1).alloc (Nat.le_refl _) _).alloc (by simp) _
  have HS0 := Lib.hid (SrcV.below HS1.out hb1W)
  have HB0 := Lib.hid hbW0
  have hz0 := hbW0.size
  generalize w1.heap.size + 1 = SB at *
  have G := Lib.hid (And.intro g0 (And.intro g1 (And.intro g2 g3)))
  clear hW0 g0 g1 g2 g3 hbW0 hb1W HS1 hp0' hp1' hwa0 hwa1 hwa2 hwb0 hwb1 hwb2 ha3 hb3 ha2 hb2
  go_loopw [33] (fun i wr => ∃ k : Nat, k ≤ 2 ∧ i = .int .i64 k ∧ Hid (Below W0.heap.size W0 wr)) (fun i _ => 2 - (RowKit.intOf i).toNat)
  case atStart => exact ⟨0, by omega, rfl, Below.refl _ _⟩
  case round =>
    obtain ⟨k, hk2, rfl, hwr⟩ := hrel
    by_cases hk : k < 2
    · obtain ⟨x, y, hx, hy⟩ : ∃ x y : Int, wr.cell? ⟨SB, k * 2, none⟩ = some (.int .i64 x) ∧ wr.cell? ⟨SB, k * 2 + 1, none⟩ = some (.int .i64 y) := by
        obtain ⟨g0, g1, g2, g3⟩ := G.out
        obtain rfl | rfl : k = 0 ∨ k = 1 := by omega
        · exact ⟨l, c, cell_later hwr.out g0, cell_later hwr.out g1⟩
        · exact ⟨na, nb, cell_later hwr.out g2, cell_later hwr.out g3⟩
      have hbX : Below W0.heap.size W0 (wr.alloc (Obj.cells #[.int .i64 x, .int .i64 y] 28)) := hwr.out.alloc hwr.out.size _
      have h1 := clamp_any a n c' ls x y past _ (SrcV.below HS0.out hbX) hs
      obtain ⟨X1, hX1⟩ : ∃ X1, X1 = wr.alloc (Obj.cells #[.int .i64 x, .int .i64 y] 28) := ⟨_, rfl⟩
      have q0 : X1.cell? ⟨wr.heap.size, 0, none⟩ = some (.int .i64 x) := by rw [hX1, World.cell?_alloc_at (hn := by simp)]; rfl
      have q1 : X1.cell? ⟨wr.heap.size, 1, none⟩ = some (.int .i64 y) := by rw [hX1, World.cell?_alloc_at (hn := by simp)]; rfl
      rw [← hX1] at hbX
      have HBX := Lib.hid hbX
      have HX1 := Lib.hid hX1
      clear hbX hX1
      go_wp2_with fail
      refine h1.mono ?_
      rintro e w3 ⟨rfl, hb3⟩
      rw [← HX1.out] at hb3
      clear h1
      obtain ⟨L, hL⟩ : ∃ L, L = clL ls x := ⟨_, rfl⟩
      obtain ⟨C, hC⟩ : ∃ C, C = clC ls x y past := ⟨_, rfl⟩
      obtain ⟨X4, hX4⟩ : ∃ X4, X4 = w3.alloc (Obj.cells #[.int .i64 (L : Int), .int .i64 (C : Int)] 28) := ⟨_, rfl⟩
      have hb34 : Below w3.heap.size w3 X4 := by rw [hX4]; exact (Below.refl _ w3).alloc (Nat.le_refl _) _
      have hb14 : Below X1.heap.size X1 X4 := hb3.trans (hb34.mono hb3.size)
      have hb04 : Below W0.heap.size W0 X4 := HBX.out.trans (hb14.mono HBX.out.size)
      have r0 : X4.cell? ⟨w3.heap.size, 0, none⟩ = some (.int .i64 (L : Int)) := by rw [hX4, World.cell?_alloc_at (hn := by simp)]; rfl
      have r1 : X4.cell? ⟨w3.heap.size, 1, none⟩ = some (.int .i64 (C : Int)) := by rw [hX4, World.cell?_alloc_at (hn := by simp)]; rfl
      have f0 := fun z : Gr X4 => z.cell (cell_later hb14 q0)
      have f1 := fun z : Gr X4 => z.cell (cell_later hb14 q1)
      have f2 := fun z : Gr X4 => z.cell r0
      have f3 := fun z : Gr X4 => z.cell r1
      have HS4 := Lib.hid (SrcV.below HS0.out hb04)
      have h5 := fun z : Gr X4 => clamp5_any a n c' ls x y past z.W (SrcV.below HS4.out z.below) hs
      have h6 := fun z : Gr X4 => clamp_any a n c' ls L C past z.W (SrcV.below HS4.out z.below) hs
      rw [hL, hC, clL_clL, clC_clC] at h6
      rw [← hL, ← hC] at h5 h6 ⊢
      have HB4 := Lib.hid hb04
      have HX4 := Lib.hid hX4
      clear hb3 hb34 hb14 hb04 q0 q1 r0 r1 hL hC hX4
      go_wp2_with fail
      rw [← HX4.out]
      refine wp_region_grow (by kernel_rfl) (by kernel_rfl) ?_
      repeat (go_big_quiet_step (first | (go_at_call 15; exact Calls.grow_of (h5 _)) | (go_at_call 14; exact Calls.grow_of (h6 _))))
      refine wpQuiet_nil ?_
      rintro _ ⟨⟨X5, hX5⟩, rfl⟩
      have HB5 := Lib.hid (HB4.out.trans (hX5.mono HB4.out.size))
      clear hX5 h5 h6 f0 f1 f2 f3 HX4
      go_wp2
      go_roundw
      case rel => exact ⟨k + 1, by omega, by go_num, HB5⟩
      case measure => simp [RowKit.intOf]; omega
    · obtain rfl : k = 2 := by omega
      have hsr := SrcV.below HS0.out hwr.out
      have h7 := size_any a n c' ls wr hsr (by omega)
      have h8 := size5_any a n c' ls wr hsr (by omega)
      have HBR := Lib.hid (HB0.out.trans (hwr.out.mono hz0))
      clear hsr
      go_wp2_with fail
      refine h7.mono ?_
      rintro e w' ⟨rfl, rfl⟩
      clear h7
      go_wp2_with fail
      refine h8.mono ?_
      rintro e w' ⟨rfl, rfl⟩
      clear h8
      go_wp2
      go_ret
      exact ⟨rfl, HBR.out⟩

end Go.Proofs.Ytbckfcndkeoogaa.CClamps
