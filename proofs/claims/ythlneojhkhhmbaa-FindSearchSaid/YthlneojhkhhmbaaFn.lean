/-
  Layer 12's laws: same; the chapter's example (known).
-/
import Derived.Test.YthlneojhkhhmbaaFs
import Derived.Test.YthlneojhkhhmbaaFw
import Derived.Test.YthlneojhkhhmbaaTw
set_option linter.unusedVariables false
set_option linter.unusedSimpArgs false
set_option maxRecDepth 100000
namespace Go.Proofs.Ythlneojhkhhmbaa.Fd
open Go Go.RowKit Go.Proofs.Ythlneojhkhhmbaa.Vk Go.Proofs.Ythlneojhkhhmbaa.Str Go.Proofs.Ythlneojhkhhmbaa.Ln Go.Proofs.Ythlneojhkhhmbaa.Cl Go.Proofs.Ythlneojhkhhmbaa.Mv Go.Proofs.Ythlneojhkhhmbaa.Wd Go.Shelf
attribute [local go_sem] Oper.semAt_some

theorem law_same (l c y q l' c' y' q' : Int) (j j' o o' : Bool) (w : World) : Calls Try.prog 18 #[mvv l c y j q, .bool o, mvv l' c' y' j' q', .bool o'] w fun e w' => e = .returned (.bool (decide ((l = l' ∧ c = c' ∧ y = y' ∧ j = j' ∧ q = q') ∧ o = o'))) ∧ Below w.heap.size w w' := by
  have he := fun W => eq_mv l c y q l' c' y' q' j j' W
  have hd : decide ((l = l' ∧ c = c' ∧ y = y' ∧ j = j' ∧ q = q') ∧ o = o') = (decide (l = l' ∧ c = c' ∧ y = y' ∧ j = j' ∧ q = q') && (o == o')) := by
    cases o <;> cases o' <;> simp
  rw [hd]
  generalize decide (l = l' ∧ c = c' ∧ y = y' ∧ j = j' ∧ q = q') = d at *
  clear hd
  cases d
  · go_enter Try.func18, Try.ntmps18
    go_wp2
    go_ret
    exact ⟨rfl, two_below _ _ _⟩
  · go_enter Try.func18, Try.ntmps18
    go_wp2
    go_ret
    exact ⟨rfl, two_below _ _ _⟩

theorem same_same (r : R) (w : World) : Calls Try.prog 18 #[.agg #[.int .i64 r.l, .int .i64 r.c, .int .i64 r.way, .bool r.j, .int .i64 r.want], .bool r.ok, .agg #[.int .i64 r.l, .int .i64 r.c, .int .i64 r.way, .bool r.j, .int .i64 r.want], .bool r.ok] w
    fun e w' => e = .returned (.bool true) ∧ Below w.heap.size w w' := by
  have h := law_same r.l r.c r.way r.want r.l r.c r.way r.want r.j r.j r.ok r.ok w
  rw [decide_eq_true (by simp)] at h
  exact h

abbrev exl : List ByteArray := [⟨#[97, 97, 97]⟩, ⟨#[98, 97]⟩]
abbrev exm : List ByteArray := [⟨#[32, 32, 102, 111, 111, 32, 98, 97, 114]⟩]
theorem exl_size (z : Nat) (hz : 3 ≤ z) : ∀ s ∈ exl, s.size ≤ z := by
  intro s hs
  simp only [exl, List.mem_cons, List.not_mem_nil, or_false] at hs
  rcases hs with hs | hs
  · rw [hs]; exact hz
  · rw [hs]; exact Nat.le_trans (by decide : 2 ≤ 3) hz
theorem exm_size (z : Nat) (hz : 9 ≤ z) : ∀ s ∈ exm, s.size ≤ z := by
  intro s hs
  simp only [exm, List.mem_cons, List.not_mem_nil, or_false] at hs
  rw [hs]; exact hz
/-- The same by lists, to be reckoned. -/
def occL (pt s : ByteArray) (q : Nat) : Bool := decide (0 < pt.size ∧ q + pt.size ≤ s.size) && (((s.data.toList.take (q + pt.size)).drop q) == pt.data.toList)
theorem occ_list (pt : ByteArray) : occ pt = occL pt := by
  funext s q
  unfold occ occL
  rw [ByteArray.toList_eq, ByteArray.toList_eq, ext_list]
theorem pls_list (pt : ByteArray) (ls : List ByteArray) : pls pt ls = mks false (occL pt) ls ls.length := by unfold pls; rw [occ_list]
theorem kn1 : srR ⟨#[97, 97]⟩ exl 0 0 1 false = ⟨0, 1, 0, true, -1, true⟩ := by unfold srR; rw [pls_list]; kernel_rfl
theorem kn2 : srR ⟨#[97]⟩ exl 0 0 1 true = ⟨1, 1, 0, true, -1, true⟩ := by unfold srR; rw [pls_list]; kernel_rfl
theorem kn4 : srR ⟨#[122, 122]⟩ exl 0 0 1 false = ⟨0, 0, 0, false, 0, false⟩ := by unfold srR; rw [pls_list]; kernel_rfl
abbrev exs : ByteArray := ⟨#[32, 32, 102, 111, 111, 32, 98, 97, 114]⟩
theorem wF_ex : wF exs 0 = 2 := by
  unfold wF
  rw [fwd_no (by decide) (by kernel_rfl), fwd_no (by decide) (by kernel_rfl), fwd_yes (by kernel_rfl)]
theorem wB_ex : wB exs 0 = 2 := by unfold wB; rw [wF_ex]; kernel_rfl
theorem wE_ex : wE exs 0 = 5 := by
  unfold wE
  rw [wF_ex, fwd_no (by decide) (by kernel_rfl), fwd_no (by decide) (by kernel_rfl), fwd_no (by decide) (by kernel_rfl), fwd_yes (by kernel_rfl)]
theorem kn3 : wdR exm 0 0 = ⟨0, 2, ⟨#[102, 111, 111]⟩, true⟩ := by
  unfold wdR
  have hl : lineAt exm (0 : Int).toNat = exs := rfl
  have h0 : (0 : Int).toNat = 0 := rfl
  rw [hl, h0, wF_ex, wB_ex, wE_ex, if_pos ⟨⟨by decide, by decide, by decide, by decide⟩, by decide⟩]
  rfl
set_option maxHeartbeats 4000000 in
theorem known_any (w : World) : Calls Try.prog 9 #[] w fun e w' => e = .returned (.bool true) ∧ Below w.heap.size w w' := by
  obtain ⟨X, hX⟩ : ∃ X, X = w.alloc (.cells #[.string ⟨#[97, 97, 97]⟩, .string ⟨#[98, 97]⟩] 9) := ⟨_, rfl⟩
  have hb0 : Below w.heap.size w X := by rw [hX]; exact (Below.refl _ w).alloc (Nat.le_refl _) _
  have hs0 : Ss X (some ⟨w.heap.size, 0, none⟩) 2 2 exl := by
    rw [hX]
    exact SrcV.lit w #[.string ⟨#[97, 97, 97]⟩, .string ⟨#[98, 97]⟩] 9 2 rfl (by simp [Value.oneCell']) (by simp [maxLen])
  have HX := Lib.hid hX
  have HS := Lib.hid hs0
  have HB := Lib.hid hb0
  have c1 := fun W (hW : Below X.heap.size X W) => search_any _ 2 2 exl 0 0 ⟨#[97, 97]⟩ false 1 W (SrcV.below HS.out hW) (exl_size _ (by omega)) (by omega) (Nat.le_of_ble_eq_true (by kernel_rfl))
  have c2 := fun W (hW : Below X.heap.size X W) => search_any _ 2 2 exl 0 0 ⟨#[97]⟩ true 1 W (SrcV.below HS.out hW) (exl_size _ (by omega)) (by omega) (Nat.le_of_ble_eq_true (by kernel_rfl))
  have c3 := fun (W : World) (hW : Ss (W.alloc (.cells #[.string ⟨#[32, 32, 102, 111, 111, 32, 98, 97, 114]⟩] 9)) (some ⟨W.heap.size, 0, none⟩) 1 1 exm) => word_any _ 1 1 exm 0 0 _ hW (exm_size _ (by omega))
  have c4 := fun W (hW : Below X.heap.size X W) => search_any _ 2 2 exl 0 0 ⟨#[122, 122]⟩ false 1 W (SrcV.below HS.out hW) (exl_size _ (by omega)) (by omega) (Nat.le_of_ble_eq_true (by kernel_rfl))
  rw [kn1] at c1
  rw [kn2] at c2
  rw [kn3] at c3
  rw [kn4] at c4
  have he1 := fun W => eq_mv 0 1 0 (-1) 0 1 0 (-1) true true W
  have he2 := fun W => Mv.eq_pos 1 1 1 1 W
  simp only [decide_true, Bool.and_self, and_self] at he1 he2
  clear hX hs0 hb0
  go_enter Try.func9, Try.ntmps9
  go_upto_region 2 with fail
  rw [← HX.out]
  have D := Lib.hid (Below.refl X.heap.size X)
  go_wp2_with fail
  refine (c1 _ D.out).mono ?_
  rintro e w1 ⟨rfl, hb⟩
  have D := Lib.hid (below_on D.out hb)
  clear hb c1
  go_upto_region 3 with fail
  obtain ⟨x1, hx1⟩ : ∃ x1, x1 = w1.alloc (.cells #[.int .i64 0, .int .i64 1, .int .i64 0, .bool true, .int .i64 (-1)] 40) := ⟨_, rfl⟩
  have hA : Below w1.heap.size w1 x1 := by rw [hx1]; exact (Below.refl _ w1).alloc (Nat.le_refl _) _
  have hV := MvAt.new w1 0 1 0 (-1) true
  rw [← hx1] at hV ⊢
  have gg_D := D.out.size
  have D := Lib.hid (below_on D.out hA)
  obtain ⟨b_A, hbf⟩ : ∃ b, b = w1.heap.size := ⟨_, rfl⟩
  rw [← hbf] at hV ⊢
  have g_A_D := Lib.hid (show X.heap.size ≤ b_A by rw [hbf]; exact gg_D)
  clear gg_D
  have A := Lib.hid hV
  clear hV hA hx1 hbf
  have c_A := A.out
  have A0 := c_A.c0
  have A1 := c_A.c1
  have A2 := c_A.c2
  have A3 := c_A.c3
  have A4 := c_A.c4
  clear c_A
  go_wp2_with fail
  refine (c2 _ D.out).mono ?_
  rintro e w2 ⟨rfl, hb⟩
  clear A0 A1 A2 A3 A4
  have D := Lib.hid (below_on D.out hb)
  have A := Lib.hid (A.out.below hb A.out.lt)
  clear hb c2
  go_upto_region 4 with fail
  obtain ⟨x2, hx2⟩ : ∃ x2, x2 = w2.alloc (.cells #[.int .i64 1, .int .i64 1, .int .i64 0, .bool true, .int .i64 (-1)] 40) := ⟨_, rfl⟩
  have hA : Below w2.heap.size w2 x2 := by rw [hx2]; exact (Below.refl _ w2).alloc (Nat.le_refl _) _
  have hV := MvAt.new w2 1 1 0 (-1) true
  rw [← hx2] at hV ⊢
  have lt_A := A.out.lt
  have gg_D := D.out.size
  have D := Lib.hid (below_on D.out hA)
  have A := Lib.hid (A.out.below hA A.out.lt)
  obtain ⟨b_B, hbf⟩ : ∃ b, b = w2.heap.size := ⟨_, rfl⟩
  rw [← hbf] at hV ⊢
  have n_A_B := Lib.hid (show b_A ≠ b_B by omega)
  clear lt_A
  have g_B_D := Lib.hid (show X.heap.size ≤ b_B by rw [hbf]; exact gg_D)
  clear gg_D
  have B := Lib.hid hV
  clear hV hA hx2 hbf
  have c_A := A.out
  have A0 := c_A.c0
  have A1 := c_A.c1
  have A2 := c_A.c2
  have A3 := c_A.c3
  have A4 := c_A.c4
  clear c_A
  have c_B := B.out
  have B0 := c_B.c0
  have B1 := c_B.c1
  have B2 := c_B.c2
  have B3 := c_B.c3
  have B4 := c_B.c4
  clear c_B
  go_wp2_with fail
  have hl : Ss (x2.alloc (.cells #[.string ⟨#[32, 32, 102, 111, 111, 32, 98, 97, 114]⟩] 9)) (some ⟨x2.heap.size, 0, none⟩) 1 1 exm := SrcV.lit x2 #[.string ⟨#[32, 32, 102, 111, 111, 32, 98, 97, 114]⟩] 9 1 rfl (by simp [Value.oneCell']) (by simp [maxLen])
  refine (c3 _ hl).mono ?_
  rintro e w3 ⟨rfl, hb⟩
  have hb := ((Below.refl _ x2).alloc (Nat.le_refl _) (.cells #[.string ⟨#[32, 32, 102, 111, 111, 32, 98, 97, 114]⟩] 9)).trans (hb.mono (by simp))
  clear A0 A1 A2 A3 A4 B0 B1 B2 B3 B4
  have D := Lib.hid (below_on D.out hb)
  have A := Lib.hid (A.out.below hb A.out.lt)
  have B := Lib.hid (B.out.below hb B.out.lt)
  clear hb c3 hl
  go_upto_region 5 with fail
  obtain ⟨x4, hx4⟩ : ∃ x4, x4 = w3.alloc (.cells #[.int .i64 0, .int .i64 2] 27) := ⟨_, rfl⟩
  have hA : Below w3.heap.size w3 x4 := by rw [hx4]; exact (Below.refl _ w3).alloc (Nat.le_refl _) _
  have hV := PosAt.new w3 0 2
  rw [← hx4] at hV ⊢
  have lt_A := A.out.lt
  have lt_B := B.out.lt
  have gg_D := D.out.size
  have D := Lib.hid (below_on D.out hA)
  have A := Lib.hid (A.out.below hA A.out.lt)
  have B := Lib.hid (B.out.below hA B.out.lt)
  obtain ⟨b_C, hbf⟩ : ∃ b, b = w3.heap.size := ⟨_, rfl⟩
  rw [← hbf] at hV ⊢
  have n_A_C := Lib.hid (show b_A ≠ b_C by omega)
  clear lt_A
  have n_B_C := Lib.hid (show b_B ≠ b_C by omega)
  clear lt_B
  have g_C_D := Lib.hid (show X.heap.size ≤ b_C by rw [hbf]; exact gg_D)
  clear gg_D
  have C := Lib.hid hV
  clear hV hA hx4 hbf
  have c_A := A.out
  have A0 := c_A.c0
  have A1 := c_A.c1
  have A2 := c_A.c2
  have A3 := c_A.c3
  have A4 := c_A.c4
  clear c_A
  have c_B := B.out
  have B0 := c_B.c0
  have B1 := c_B.c1
  have B2 := c_B.c2
  have B3 := c_B.c3
  have B4 := c_B.c4
  clear c_B
  have c_C := C.out
  have C0 := c_C.c0
  have C1 := c_C.c1
  clear c_C
  go_wp2_with fail
  refine (c4 _ D.out).mono ?_
  rintro e w4 ⟨rfl, hb⟩
  clear A0 A1 A2 A3 A4 B0 B1 B2 B3 B4 C0 C1
  have D := Lib.hid (below_on D.out hb)
  have A := Lib.hid (A.out.below hb A.out.lt)
  have B := Lib.hid (B.out.below hb B.out.lt)
  have C := Lib.hid (C.out.below hb C.out.lt)
  clear hb c4
  go_upto_region 6 with fail
  obtain ⟨x5, hx5⟩ : ∃ x5, x5 = w4.alloc (.cells #[.int .i64 0, .int .i64 0, .int .i64 0, .bool false, .int .i64 0] 40) := ⟨_, rfl⟩
  have hA : Below w4.heap.size w4 x5 := by rw [hx5]; exact (Below.refl _ w4).alloc (Nat.le_refl _) _
  have hV := MvAt.new w4 0 0 0 0 false
  rw [← hx5] at hV ⊢
  have lt_A := A.out.lt
  have lt_B := B.out.lt
  have lt_C := C.out.lt
  have gg_D := D.out.size
  have D := Lib.hid (below_on D.out hA)
  have A := Lib.hid (A.out.below hA A.out.lt)
  have B := Lib.hid (B.out.below hA B.out.lt)
  have C := Lib.hid (C.out.below hA C.out.lt)
  obtain ⟨b_E, hbf⟩ : ∃ b, b = w4.heap.size := ⟨_, rfl⟩
  rw [← hbf] at hV ⊢
  have n_A_E := Lib.hid (show b_A ≠ b_E by omega)
  clear lt_A
  have n_B_E := Lib.hid (show b_B ≠ b_E by omega)
  clear lt_B
  have n_C_E := Lib.hid (show b_C ≠ b_E by omega)
  clear lt_C
  have g_E_D := Lib.hid (show X.heap.size ≤ b_E by rw [hbf]; exact gg_D)
  clear gg_D
  have E := Lib.hid hV
  clear hV hA hx5 hbf
  have c_A := A.out
  have A0 := c_A.c0
  have A1 := c_A.c1
  have A2 := c_A.c2
  have A3 := c_A.c3
  have A4 := c_A.c4
  clear c_A
  have c_B := B.out
  have B0 := c_B.c0
  have B1 := c_B.c1
  have B2 := c_B.c2
  have B3 := c_B.c3
  have B4 := c_B.c4
  clear c_B
  have c_C := C.out
  have C0 := c_C.c0
  have C1 := c_C.c1
  clear c_C
  have c_E := E.out
  have E0 := c_E.c0
  have E1 := c_E.c1
  have E2 := c_E.c2
  have E3 := c_E.c3
  have E4 := c_E.c4
  clear c_E
  go_wp2
  go_ret
  exact ⟨rfl, below_on HB.out D.out⟩
end Go.Proofs.Ythlneojhkhhmbaa.Fd
