/-
  Layer 18's laws: the chapter's example (known).
-/
import Derived.Test.YtnngcminomooeaaXu
import Derived.Test.YtnngcminomooeaaXg
import Derived.Test.YtnngcminomooeaaXh
import Derived.Test.YtnngcminomooeaaWs
set_option linter.unusedVariables false
set_option linter.unusedSimpArgs false
set_option maxRecDepth 100000
namespace Go.Proofs.Ytnngcminomooeaa.Po
open Go Go.RowKit Go.Proofs.Ytnngcminomooeaa.Vk Go.Proofs.Ytnngcminomooeaa.Str Go.Proofs.Ytnngcminomooeaa.Ln Go.Proofs.Ytnngcminomooeaa.Cl Go.Proofs.Ytnngcminomooeaa.Mv Go.Proofs.Ytnngcminomooeaa.Wd Go.Proofs.Ytnngcminomooeaa.Pa Go.Proofs.Ytnngcminomooeaa.Po
open Go.Proofs.Ytnngcminomooeaa.Wo (On rgv RgAt putR putR_below eq_rng ne_rng)
attribute [local go_sem] Oper.semAt_some
set_option maxHeartbeats 4000000

abbrev exl : List ByteArray := [⟨#[97]⟩, ⟨#[]⟩, ⟨#[98, 32, 99, 46, 32, 100]⟩]
theorem exl_size : ∀ s ∈ exl, s.size ≤ 140737488355328 := by
  intro s hs
  simp only [exl, List.mem_cons, List.not_mem_nil, or_false] at hs
  rcases hs with rfl | rfl | rfl
  · exact Nat.le_trans (by decide : 1 ≤ 10) (by omega)
  · exact Nat.zero_le _
  · exact Nat.le_trans (by decide : 6 ≤ 10) (by omega)
theorem kn1 : anP (arP exl 0 0 1) = .tuple #[.agg #[.int .i64 1, .int .i64 0, .int .i64 0, .int .i64 1, .int .i64 0], .bool true] := by kernel_rfl
theorem kn2 : anP (inP exl 2 0 1) = .tuple #[.agg #[.int .i64 1, .int .i64 2, .int .i64 0, .int .i64 2, .int .i64 0], .bool true] := by kernel_rfl
theorem kn3 : snW (snQ exl 2 0 false) = .tuple #[.agg #[.int .i64 0, .int .i64 2, .int .i64 0, .int .i64 2, .int .i64 4], .bool true] := by kernel_rfl
theorem kn4 : anP (inP exl 0 0 4) = .tuple #[.agg #[.int .i64 0, .int .i64 0, .int .i64 0, .int .i64 0, .int .i64 0], .bool false] := by kernel_rfl
theorem known_any (w : World) : Calls Try.prog 7 #[] w fun e w' => e = .returned (.bool true) ∧ Below w.heap.size w w' := by
  obtain ⟨X, hX⟩ : ∃ X, X = w.alloc (.cells #[.string ⟨#[97]⟩, .string ⟨#[]⟩, .string ⟨#[98, 32, 99, 46, 32, 100]⟩] 9) := ⟨_, rfl⟩
  have hb0 : Below w.heap.size w X := by rw [hX]; exact (Below.refl _ w).alloc (Nat.le_refl _) _
  have hs0 : Ss X (some ⟨w.heap.size, 0, none⟩) 3 3 exl := by
    rw [hX]
    exact SrcV.lit w #[.string ⟨#[97]⟩, .string ⟨#[]⟩, .string ⟨#[98, 32, 99, 46, 32, 100]⟩] 9 3 rfl (by simp [Value.oneCell']) (by simp [maxLen])
  have HX := Lib.hid hX
  have HS := Lib.hid hs0
  have HB := Lib.hid hb0
  have c1 := fun W (hW : Below X.heap.size X W) => around_any _ 3 3 exl 0 0 1 W (SrcV.below HS.out hW) exl_size (by omega)
  have c2 := fun W (hW : Below X.heap.size X W) => inner_any _ 3 3 exl 2 0 1 W (SrcV.below HS.out hW) exl_size (by omega)
  have c3 := fun W (hW : Below X.heap.size X W) => sentence_any _ 3 3 exl 2 0 false W (SrcV.below HS.out hW) exl_size (by omega)
  have c4 := fun W (hW : Below X.heap.size X W) => inner_any _ 3 3 exl 0 0 4 W (SrcV.below HS.out hW) exl_size (by omega)
  rw [kn1] at c1
  rw [kn2] at c2
  rw [kn3] at c3
  rw [kn4] at c4
  have he1 := fun W => eq_rng 1 0 0 1 0 1 0 0 1 0 W
  have he2 := fun W => eq_rng 1 2 0 2 0 1 2 0 2 0 W
  have he3 := fun W => eq_rng 0 2 0 2 4 0 2 0 2 4 W
  simp only [decide_true, Bool.and_self, and_self] at he1 he2 he3
  clear hX hs0 hb0
  go_enter Try.func7, Try.ntmps7
  go_upto_region 2 with fail
  rw [← HX.out]
  have D := Lib.hid (Below.refl X.heap.size X)
  go_wp2_with fail
  refine (c1 _ D.out).mono ?_
  rintro e w1 ⟨rfl, hb⟩
  have D := Lib.hid (below_on D.out hb)
  clear hb c1
  go_upto_region 3 with fail
  obtain ⟨x1, hx1⟩ : ∃ x1, x1 = w1.alloc (.cells #[.int .i64 1, .int .i64 0, .int .i64 0, .int .i64 1, .int .i64 0] 42) := ⟨_, rfl⟩
  have hA : Below w1.heap.size w1 x1 := by rw [hx1]; exact (Below.refl _ w1).alloc (Nat.le_refl _) _
  have hV := RgAt.new w1 1 0 0 1 0
  rw [← hx1] at hV ⊢
  have gg_D := D.out.size
  have D := Lib.hid (below_on D.out hA)
  obtain ⟨b_A, hbf⟩ : ∃ b, b = w1.heap.size := ⟨_, rfl⟩
  rw [← hbf] at hV ⊢
  have g_A_D := Lib.hid (show X.heap.size ≤ b_A by rw [hbf]; exact gg_D)
  clear gg_D
  have A := Lib.hid hV
  clear hV hA hx1 hbf
  have c_A := A.out
  have A0 := c_A.c0
  have A1 := c_A.c1
  have A2 := c_A.c2
  have A3 := c_A.c3
  have A4 := c_A.c4
  clear c_A
  go_wp2_with fail
  refine (c2 _ D.out).mono ?_
  rintro e w2 ⟨rfl, hb⟩
  clear A0 A1 A2 A3 A4
  have D := Lib.hid (below_on D.out hb)
  have A := Lib.hid (A.out.below hb A.out.lt)
  clear hb c2
  go_upto_region 4 with fail
  obtain ⟨x2, hx2⟩ : ∃ x2, x2 = w2.alloc (.cells #[.int .i64 1, .int .i64 2, .int .i64 0, .int .i64 2, .int .i64 0] 42) := ⟨_, rfl⟩
  have hA : Below w2.heap.size w2 x2 := by rw [hx2]; exact (Below.refl _ w2).alloc (Nat.le_refl _) _
  have hV := RgAt.new w2 1 2 0 2 0
  rw [← hx2] at hV ⊢
  have lt_A := A.out.lt
  have gg_D := D.out.size
  have D := Lib.hid (below_on D.out hA)
  have A := Lib.hid (A.out.below hA A.out.lt)
  obtain ⟨b_B, hbf⟩ : ∃ b, b = w2.heap.size := ⟨_, rfl⟩
  rw [← hbf] at hV ⊢
  have n_A_B := Lib.hid (show b_A ≠ b_B by omega)
  clear lt_A
  have g_B_D := Lib.hid (show X.heap.size ≤ b_B by rw [hbf]; exact gg_D)
  clear gg_D
  have B := Lib.hid hV
  clear hV hA hx2 hbf
  have c_A := A.out
  have A0 := c_A.c0
  have A1 := c_A.c1
  have A2 := c_A.c2
  have A3 := c_A.c3
  have A4 := c_A.c4
  clear c_A
  have c_B := B.out
  have B0 := c_B.c0
  have B1 := c_B.c1
  have B2 := c_B.c2
  have B3 := c_B.c3
  have B4 := c_B.c4
  clear c_B
  go_wp2_with fail
  refine (c3 _ D.out).mono ?_
  rintro e w3 ⟨rfl, hb⟩
  clear A0 A1 A2 A3 A4 B0 B1 B2 B3 B4
  have D := Lib.hid (below_on D.out hb)
  have A := Lib.hid (A.out.below hb A.out.lt)
  have B := Lib.hid (B.out.below hb B.out.lt)
  clear hb c3
  go_upto_region 5 with fail
  obtain ⟨x3, hx3⟩ : ∃ x3, x3 = w3.alloc (.cells #[.int .i64 0, .int .i64 2, .int .i64 0, .int .i64 2, .int .i64 4] 42) := ⟨_, rfl⟩
  have hA : Below w3.heap.size w3 x3 := by rw [hx3]; exact (Below.refl _ w3).alloc (Nat.le_refl _) _
  have hV := RgAt.new w3 0 2 0 2 4
  rw [← hx3] at hV ⊢
  have lt_A := A.out.lt
  have lt_B := B.out.lt
  have gg_D := D.out.size
  have D := Lib.hid (below_on D.out hA)
  have A := Lib.hid (A.out.below hA A.out.lt)
  have B := Lib.hid (B.out.below hA B.out.lt)
  obtain ⟨b_C, hbf⟩ : ∃ b, b = w3.heap.size := ⟨_, rfl⟩
  rw [← hbf] at hV ⊢
  have n_A_C := Lib.hid (show b_A ≠ b_C by omega)
  clear lt_A
  have n_B_C := Lib.hid (show b_B ≠ b_C by omega)
  clear lt_B
  have g_C_D := Lib.hid (show X.heap.size ≤ b_C by rw [hbf]; exact gg_D)
  clear gg_D
  have C := Lib.hid hV
  clear hV hA hx3 hbf
  have c_A := A.out
  have A0 := c_A.c0
  have A1 := c_A.c1
  have A2 := c_A.c2
  have A3 := c_A.c3
  have A4 := c_A.c4
  clear c_A
  have c_B := B.out
  have B0 := c_B.c0
  have B1 := c_B.c1
  have B2 := c_B.c2
  have B3 := c_B.c3
  have B4 := c_B.c4
  clear c_B
  have c_C := C.out
  have C0 := c_C.c0
  have C1 := c_C.c1
  have C2 := c_C.c2
  have C3 := c_C.c3
  have C4 := c_C.c4
  clear c_C
  go_wp2_with fail
  refine (c4 _ D.out).mono ?_
  rintro e w4 ⟨rfl, hb⟩
  clear A0 A1 A2 A3 A4 B0 B1 B2 B3 B4 C0 C1 C2 C3 C4
  have D := Lib.hid (below_on D.out hb)
  have A := Lib.hid (A.out.below hb A.out.lt)
  have B := Lib.hid (B.out.below hb B.out.lt)
  have C := Lib.hid (C.out.below hb C.out.lt)
  clear hb c4
  go_upto_region 6 with fail
  obtain ⟨x4, hx4⟩ : ∃ x4, x4 = w4.alloc (.cells #[.int .i64 0, .int .i64 0, .int .i64 0, .int .i64 0, .int .i64 0] 42) := ⟨_, rfl⟩
  have hA : Below w4.heap.size w4 x4 := by rw [hx4]; exact (Below.refl _ w4).alloc (Nat.le_refl _) _
  have hV := RgAt.new w4 0 0 0 0 0
  rw [← hx4] at hV ⊢
  have lt_A := A.out.lt
  have lt_B := B.out.lt
  have lt_C := C.out.lt
  have gg_D := D.out.size
  have D := Lib.hid (below_on D.out hA)
  have A := Lib.hid (A.out.below hA A.out.lt)
  have B := Lib.hid (B.out.below hA B.out.lt)
  have C := Lib.hid (C.out.below hA C.out.lt)
  obtain ⟨b_E, hbf⟩ : ∃ b, b = w4.heap.size := ⟨_, rfl⟩
  rw [← hbf] at hV ⊢
  have n_A_E := Lib.hid (show b_A ≠ b_E by omega)
  clear lt_A
  have n_B_E := Lib.hid (show b_B ≠ b_E by omega)
  clear lt_B
  have n_C_E := Lib.hid (show b_C ≠ b_E by omega)
  clear lt_C
  have g_E_D := Lib.hid (show X.heap.size ≤ b_E by rw [hbf]; exact gg_D)
  clear gg_D
  have E := Lib.hid hV
  clear hV hA hx4 hbf
  have c_A := A.out
  have A0 := c_A.c0
  have A1 := c_A.c1
  have A2 := c_A.c2
  have A3 := c_A.c3
  have A4 := c_A.c4
  clear c_A
  have c_B := B.out
  have B0 := c_B.c0
  have B1 := c_B.c1
  have B2 := c_B.c2
  have B3 := c_B.c3
  have B4 := c_B.c4
  clear c_B
  have c_C := C.out
  have C0 := c_C.c0
  have C1 := c_C.c1
  have C2 := c_C.c2
  have C3 := c_C.c3
  have C4 := c_C.c4
  clear c_C
  have c_E := E.out
  have E0 := c_E.c0
  have E1 := c_E.c1
  have E2 := c_E.c2
  have E3 := c_E.c3
  have E4 := c_E.c4
  clear c_E
  go_wp2
  go_ret
  exact ⟨rfl, below_on HB.out D.out⟩
/-- The answers in parts. -/
theorem anP_parts (r : Option (Nat × Nat)) : ∃ (K A B : Int) (o : Bool), anP r = .tuple #[.agg #[.int .i64 K, .int .i64 A, .int .i64 0, .int .i64 B, .int .i64 0], .bool o] := by
  cases r with
  | none => exact ⟨0, 0, 0, false, rfl⟩
  | some x => exact ⟨1, x.1, ((x.2 - 1 : Nat) : Int), true, rfl⟩
theorem snW_parts (r : Option (P2 × P2)) : ∃ (A B C D : Int) (o : Bool), snW r = .tuple #[.agg #[.int .i64 0, .int .i64 A, .int .i64 B, .int .i64 C, .int .i64 D], .bool o] := by
  cases r with
  | none => exact ⟨0, 0, 0, 0, false, rfl⟩
  | some x => exact ⟨x.1.1, x.1.2, x.2.1, x.2.2, true, rfl⟩
end Go.Proofs.Ytnngcminomooeaa.Po
