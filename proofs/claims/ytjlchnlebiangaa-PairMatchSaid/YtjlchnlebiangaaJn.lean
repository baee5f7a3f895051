/-
  Layer 11's laws: same; the chapter's example (known).
-/
import Derived.Test.YtjlchnlebiangaaJm
import Derived.Test.YtjlchnlebiangaaJe
import Derived.Test.YtjlchnlebiangaaTw
set_option linter.unusedVariables false
set_option linter.unusedSimpArgs false
set_option maxRecDepth 100000
namespace Go.Proofs.Ytjlchnlebiangaa.Pr
open Go Go.RowKit Go.Proofs.Ytjlchnlebiangaa.Vk Go.Proofs.Ytjlchnlebiangaa.Str Go.Proofs.Ytjlchnlebiangaa.Ln Go.Proofs.Ytjlchnlebiangaa.Cl Go.Proofs.Ytjlchnlebiangaa.Mv Go.Proofs.Ytjlchnlebiangaa.Wd Go.Shelf
attribute [local go_sem] Oper.semAt_some

theorem law_same (l c y q l' c' y' q' : Int) (j j' o o' : Bool) (w : World) : Calls Try.prog 12 #[mvv l c y j q, .bool o, mvv l' c' y' j' q', .bool o'] w fun e w' => e = .returned (.bool (decide ((l = l' ∧ c = c' ∧ y = y' ∧ j = j' ∧ q = q') ∧ o = o'))) ∧ Below w.heap.size w w' := by
  have he := fun W => eq_mv l c y q l' c' y' q' j j' W
  have hd : decide ((l = l' ∧ c = c' ∧ y = y' ∧ j = j' ∧ q = q') ∧ o = o') = (decide (l = l' ∧ c = c' ∧ y = y' ∧ j = j' ∧ q = q') && (o == o')) := by
    cases o <;> cases o' <;> simp
  rw [hd]
  generalize decide (l = l' ∧ c = c' ∧ y = y' ∧ j = j' ∧ q = q') = d at *
  clear hd
  cases d
  · go_enter Try.func12, Try.ntmps12
    go_wp2
    go_ret
    exact ⟨rfl, two_below _ _ _⟩
  · go_enter Try.func12, Try.ntmps12
    go_wp2
    go_ret
    exact ⟨rfl, two_below _ _ _⟩


theorem same_same (r : R) (w : World) : Calls Try.prog 12 #[.agg #[.int .i64 r.l, .int .i64 r.c, .int .i64 r.way, .bool r.j, .int .i64 r.want], .bool r.ok, .agg #[.int .i64 r.l, .int .i64 r.c, .int .i64 r.way, .bool r.j, .int .i64 r.want], .bool r.ok] w
    fun e w' => e = .returned (.bool true) ∧ Below w.heap.size w w' := by
  have h := law_same r.l r.c r.way r.want r.l r.c r.way r.want r.j r.j r.ok r.ok w
  rw [decide_eq_true (by simp)] at h
  exact h

abbrev exl : List ByteArray := [⟨#[40, 97, 40, 98, 41, 41]⟩]
abbrev exm : List ByteArray := [⟨#[40, 97]⟩]
theorem exl_size (z : Nat) (hz : 6 ≤ z) : ∀ s ∈ exl, s.size ≤ z := by
  intro s hs
  simp only [exl, List.mem_cons, List.not_mem_nil, or_false] at hs
  rw [hs]; exact hz
theorem exm_size (z : Nat) (hz : 2 ≤ z) : ∀ s ∈ exm, s.size ≤ z := by
  intro s hs
  simp only [exm, List.mem_cons, List.not_mem_nil, or_false] at hs
  rw [hs]; exact hz
set_option maxHeartbeats 4000000 in
theorem known_any (w : World) : Calls Try.prog 7 #[] w fun e w' => e = .returned (.bool true) ∧ Below w.heap.size w w' := by
  obtain ⟨X, hX⟩ : ∃ X, X = w.alloc (.cells #[.string ⟨#[40, 97, 40, 98, 41, 41]⟩] 9) := ⟨_, rfl⟩
  have hb0 : Below w.heap.size w X := by rw [hX]; exact (Below.refl _ w).alloc (Nat.le_refl _) _
  have hs0 : Ss X (some ⟨w.heap.size, 0, none⟩) 1 1 exl := by
    rw [hX]
    exact SrcV.lit w #[.string ⟨#[40, 97, 40, 98, 41, 41]⟩] 9 1 rfl (by simp [Value.oneCell']) (by simp [maxLen])
  have HX := Lib.hid hX
  have HS := Lib.hid hs0
  have HB := Lib.hid hb0
  have c1 := fun W (hW : Below X.heap.size X W) => match_any _ 1 1 exl 0 1 W (SrcV.below HS.out hW) (exl_size _ (by omega)) (by omega) (Nat.le_of_ble_eq_true (by kernel_rfl))
  have c2 := fun W (hW : Below X.heap.size X W) => encl_any _ 1 1 exl 0 3 40 2 W (SrcV.below HS.out hW) (exl_size _ (by omega)) (by omega) (Nat.le_of_ble_eq_true (by kernel_rfl)) (by omega)
  have c3 := fun (W : World) (hW : Ss (W.alloc (.cells #[.string ⟨#[40, 97]⟩] 9)) (some ⟨W.heap.size, 0, none⟩) 1 1 exm) => match_any _ 1 1 exm 0 0 _ hW (exm_size _ (by omega)) (by omega) (Nat.le_of_ble_eq_true (by kernel_rfl))
  have c4 := fun W => kind_any 93 W
  rw [show mtR exl 0 1 = ⟨0, 4, 1, true, -1, true⟩ from by kernel_rfl] at c1
  rw [show eW (enV exl 0 3 40 2) = (((0, 0), (0, 5)), true) from by kernel_rfl] at c2
  rw [show mtR exm 0 0 = ⟨0, 0, 0, false, 0, false⟩ from by kernel_rfl] at c3
  unfold kV at c4
  rw [show kO 93 = 91 from rfl, show kS 93 = 93 from rfl, show kB 93 = false from rfl, show kI 93 = true from rfl] at c4
  dsimp only [eU] at c2
  simp only [Int.cast_ofNat_Int, show ((0 : Nat) : Int) = 0 from rfl, show ((5 : Nat) : Int) = 5 from rfl, show ((40 : Nat) : Int) = 40 from rfl, show ((93 : Nat) : Int) = 93 from rfl, show ((91 : Nat) : Int) = 91 from rfl] at c2 c4
  have he1 := fun W => eq_mv 0 4 1 (-1) 0 4 1 (-1) true true W
  have he2 := fun W => Mv.eq_pos 0 0 0 0 W
  have he3 := fun W => Mv.eq_pos 0 5 0 5 W
  simp only [decide_true, Bool.and_self, and_self] at he1 he2 he3
  clear hX hs0 hb0
  go_enter Try.func7, Try.ntmps7
  go_upto_region 2 with fail
  rw [← HX.out]
  have D := Lib.hid (Below.refl X.heap.size X)
  go_wp2_with fail
  refine (c1 _ D.out).mono ?_
  rintro e w1 ⟨rfl, hb⟩
  have D := Lib.hid (below_on D.out hb)
  clear hb c1
  go_upto_region 3 with fail
  obtain ⟨x1, hx1⟩ : ∃ x1, x1 = w1.alloc (.cells #[.int .i64 0, .int .i64 4, .int .i64 1, .bool true, .int .i64 (-1)] 31) := ⟨_, rfl⟩
  have hA : Below w1.heap.size w1 x1 := by rw [hx1]; exact (Below.refl _ w1).alloc (Nat.le_refl _) _
  have hV := MvAt.new w1 0 4 1 (-1) true
  rw [← hx1] at hV ⊢
  have gg_D := D.out.size
  have D := Lib.hid (below_on D.out hA)
  obtain ⟨b_A, hbf⟩ : ∃ b, b = w1.heap.size := ⟨_, rfl⟩
  rw [← hbf] at hV ⊢
  have g_A_D := Lib.hid (show X.heap.size ≤ b_A by rw [hbf]; exact gg_D)
  clear gg_D
  have A := Lib.hid hV
  clear hV hA hx1 hbf
  have c_A := A.out
  have A0 := c_A.c0
  have A1 := c_A.c1
  have A2 := c_A.c2
  have A3 := c_A.c3
  have A4 := c_A.c4
  clear c_A
  go_wp2_with fail
  refine (c2 _ D.out).mono ?_
  rintro e w2 ⟨rfl, hb⟩
  clear A0 A1 A2 A3 A4
  have D := Lib.hid (below_on D.out hb)
  have A := Lib.hid (A.out.below hb A.out.lt)
  clear hb c2
  go_upto_region 4 with fail
  obtain ⟨x3, hx3⟩ : ∃ x3, x3 = (w2.alloc (.cells #[.int .i64 0, .int .i64 0] 24)).alloc (.cells #[.int .i64 0, .int .i64 5] 24) := ⟨_, rfl⟩
  have hA : Below w2.heap.size w2 x3 := by rw [hx3]; exact two_below _ _ _
  have hV : PosAt x3 w2.heap.size 0 0 := by rw [hx3]; exact PosAt.below (PosAt.new w2 _ _) ((Below.refl _ _).alloc (Nat.le_refl _) _) (by simp)
  have hU : PosAt x3 (w2.heap.size + 1) 0 5 := by rw [hx3]; exact two_new w2 _ _
  rw [← hx3]
  have lt_A := A.out.lt
  have gg_D := D.out.size
  have D := Lib.hid (below_on D.out hA)
  have A := Lib.hid (A.out.below hA A.out.lt)
  obtain ⟨b_B, hbf⟩ : ∃ b, b = w2.heap.size := ⟨_, rfl⟩
  rw [← hbf] at hV hU ⊢
  obtain ⟨b_C, hbg⟩ : ∃ b, b = b_B + 1 := ⟨_, rfl⟩
  rw [← hbg] at hU ⊢
  have n_A_B := Lib.hid (show b_A ≠ b_B by omega)
  have n_A_C := Lib.hid (show b_A ≠ b_C by omega)
  clear lt_A
  have n_B_C := Lib.hid (show b_B ≠ b_C by omega)
  have g_B_D := Lib.hid (show X.heap.size ≤ b_B by rw [hbf]; exact gg_D)
  have g_C_D := Lib.hid (show X.heap.size ≤ b_C by have := g_B_D.out; omega)
  clear gg_D
  have B := Lib.hid hV
  have C := Lib.hid hU
  clear hV hU hA hx3 hbf hbg
  have c_A := A.out
  have A0 := c_A.c0
  have A1 := c_A.c1
  have A2 := c_A.c2
  have A3 := c_A.c3
  have A4 := c_A.c4
  clear c_A
  have c_B := B.out
  have B0 := c_B.c0
  have B1 := c_B.c1
  clear c_B
  have c_C := C.out
  have C0 := c_C.c0
  have C1 := c_C.c1
  clear c_C
  go_wp2_with fail
  have hl : Ss (x3.alloc (.cells #[.string ⟨#[40, 97]⟩] 9)) (some ⟨x3.heap.size, 0, none⟩) 1 1 exm := SrcV.lit x3 #[.string ⟨#[40, 97]⟩] 9 1 rfl (by simp [Value.oneCell']) (by simp [maxLen])
  refine (c3 _ hl).mono ?_
  rintro e w3 ⟨rfl, hb⟩
  have hb := ((Below.refl _ x3).alloc (Nat.le_refl _) (.cells #[.string ⟨#[40, 97]⟩] 9)).trans (hb.mono (by simp))
  clear A0 A1 A2 A3 A4 B0 B1 C0 C1
  have D := Lib.hid (below_on D.out hb)
  have A := Lib.hid (A.out.below hb A.out.lt)
  have B := Lib.hid (B.out.below hb B.out.lt)
  have C := Lib.hid (C.out.below hb C.out.lt)
  clear hb c3 hl
  go_upto_region 5 with fail
  obtain ⟨x4, hx4⟩ : ∃ x4, x4 = w3.alloc (.cells #[.int .i64 0, .int .i64 0, .int .i64 0, .bool false, .int .i64 0] 31) := ⟨_, rfl⟩
  have hA : Below w3.heap.size w3 x4 := by rw [hx4]; exact (Below.refl _ w3).alloc (Nat.le_refl _) _
  have hV := MvAt.new w3 0 0 0 0 false
  rw [← hx4] at hV ⊢
  have lt_A := A.out.lt
  have lt_B := B.out.lt
  have lt_C := C.out.lt
  have gg_D := D.out.size
  have D := Lib.hid (below_on D.out hA)
  have A := Lib.hid (A.out.below hA A.out.lt)
  have B := Lib.hid (B.out.below hA B.out.lt)
  have C := Lib.hid (C.out.below hA C.out.lt)
  obtain ⟨b_E, hbf⟩ : ∃ b, b = w3.heap.size := ⟨_, rfl⟩
  rw [← hbf] at hV ⊢
  have n_A_E := Lib.hid (show b_A ≠ b_E by omega)
  clear lt_A
  have n_B_E := Lib.hid (show b_B ≠ b_E by omega)
  clear lt_B
  have n_C_E := Lib.hid (show b_C ≠ b_E by omega)
  clear lt_C
  have g_E_D := Lib.hid (show X.heap.size ≤ b_E by rw [hbf]; exact gg_D)
  clear gg_D
  have E := Lib.hid hV
  clear hV hA hx4 hbf
  have c_A := A.out
  have A0 := c_A.c0
  have A1 := c_A.c1
  have A2 := c_A.c2
  have A3 := c_A.c3
  have A4 := c_A.c4
  clear c_A
  have c_B := B.out
  have B0 := c_B.c0
  have B1 := c_B.c1
  clear c_B
  have c_C := C.out
  have C0 := c_C.c0
  have C1 := c_C.c1
  clear c_C
  have c_E := E.out
  have E0 := c_E.c0
  have E1 := c_E.c1
  have E2 := c_E.c2
  have E3 := c_E.c3
  have E4 := c_E.c4
  clear c_E
  go_wp2_with fail
  refine (c4 _).mono ?_
  rintro e w9 ⟨rfl, rfl⟩
  clear c4
  go_wp2
  go_ret
  exact ⟨rfl, below_on HB.out D.out⟩
end Go.Proofs.Ytjlchnlebiangaa.Pr
