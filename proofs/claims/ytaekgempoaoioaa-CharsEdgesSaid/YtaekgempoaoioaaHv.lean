/-
  The document: Seek.
-/
import Derived.Test.YtaekgempoaoioaaHq
set_option linter.unusedVariables false
set_option linter.unusedSimpArgs false
set_option maxRecDepth 100000
namespace Go.Proofs.Ytaekgempoaoioaa.Ch
open Go Go.RowKit Go.Proofs.Ytaekgempoaoioaa.Vk Go.Proofs.Ytaekgempoaoioaa.Str Go.Proofs.Ytaekgempoaoioaa.Ln Go.Proofs.Ytaekgempoaoioaa.Cl Go.Proofs.Ytaekgempoaoioaa.Mv
attribute [local go_sem] Oper.semAt_some
set_option maxHeartbeats 4000000

theorem seek5_any (a : Option Addr) (n c' : Nat) (ls : List ByteArray) (l c : Int) (key x k : Int) (w : World) (h : Ss w a n c' ls) (hs : ∀ s ∈ ls, s.size ≤ 140737488355328) (hs6 : ∀ s ∈ ls, s6 s) (hk63 : k ≤ 9223372036854775807) :
    Calls Try.prog 26 #[.slice a n c', .agg #[.int .i64 l, .int .i64 c], .int .u8 key, .int .u8 x, .int .i64 k] w fun e w' => e = .returned ((seekR ls l c key x k)).v ∧ Below w.heap.size w w' := by
  obtain ⟨X, hX⟩ : ∃ X, X = ((w.alloc (.cells #[.int .i64 l, .int .i64 c] 24)).alloc (.cells #[.int .i64 0, .int .i64 0, .int .i64 0, .bool false, .int .i64 0] 32)) := ⟨_, rfl⟩
  have hT : Two w X l c := by rw [hX]; exact Two.new w l c
  have HX := Lib.hid hX
  have h1 := may_any a n c' ls l c k X (SrcV.below h hT.below)
  have p0 := hT.pos.c0
  have p1 := hT.pos.c1
  have m0 := hT.mv.c0
  have m1 := hT.mv.c1
  have m2 := hT.mv.c2
  have m3 := hT.mv.c3
  have m4 := hT.mv.c4
  have z := hT.mv.z
  have hlen := h.length
  have hn := h.le63
  by_cases hp' : Plc ls l c ∧ 1 ≤ k
  · rw [decide_eq_true hp'] at h1
    obtain ⟨hp, hk⟩ := hp'
    obtain ⟨i, m, rfl, rfl, hi, hm⟩ := hp.nat
    obtain ⟨b, o, rfl, hcell, hnc, _⟩ := h.read i hi
    have hlt := lineAt_get hi
    rw [← hlt] at hcell
    have hsz := hs (ls[i]'hi) (List.getElem_mem _)
    rw [← hlt] at hsz
    rw [hlen] at hi
    have hz6 : s6 (lineAt ls i) := by rw [hlt]; exact hs6 _ (List.getElem_mem _)
    rw [seekR_in hp hk]
    clear hp h hs hs6 hX hlt
    generalize lineAt ls i = s at *
    obtain ⟨N, rfl⟩ : ∃ N : Nat, k = (N : Int) := ⟨k.toNat, by omega⟩
    rw [Int.toNat_natCast]
    have hN : 1 ≤ N := by omega
    have hto := fun (j : Int) W => to_any' i j W
    clear hk
    by_cases hk102 : key = 102
    · subst hk102
      go_enter Try.func26, Try.ntmps26
      go_wp2_with fail
      rw [← HX.out]
      refine (h1).mono ?_
      rintro e w1 ⟨rfl, hb_w1⟩
      have hT1 := hT.on hb_w1
      clear p0 p1 m0 m1 m2 m3 m4 z h1
      have p0 := hT1.pos.c0
      have p1 := hT1.pos.c1
      have m0 := hT1.mv.c0
      have m1 := hT1.mv.c1
      have m2 := hT1.mv.c2
      have m3 := hT1.mv.c3
      have m4 := hT1.mv.c4
      have z := hT1.mv.z
      have hc1 := cell_later (hT.below.trans (hb_w1.mono hT.below.size)) hcell
      have ew := wrap_inc m (by omega)
      clear hT hcell
      go_wp2
      go_loop [4, 13, 14] (fun u v i => ∃ J p : Nat, ∃ A : Int, m + 1 ≤ J ∧ (J ≤ s.size ∨ J = m + 1) ∧ i = .int .i64 J ∧ u = .int .i64 p ∧ v = .int .i64 A ∧ Hid (p + cntc s x (m + 1) (J - (m + 1)) = N) ∧ Hid ((p = N ∧ A = -1) ∨ ∃ j : Nat, A = j ∧ Between s x (N - p) m j ∧ atc s j = x ∧ j < s.size)) (fun _ _ i => s.size + 1 - (RowKit.intOf i).toNat)
      case atStart => exact ⟨m + 1, N, -1, by omega, .inr rfl, by go_num, rfl, rfl, by rw [Nat.sub_self]; rfl, .inl ⟨rfl, rfl⟩⟩
      case round =>
        obtain ⟨J, p, A, hJ1, hJ2, rfl, rfl, rfl, hcn, hA⟩ := hrel
        clear ew
        by_cases hp0 : p = 0
        · obtain ⟨j, rfl, hbt, hac, hjn⟩ : ∃ j : Nat, A = j ∧ Between s x N m j ∧ atc s j = x ∧ j < s.size := by
            rcases hA.out with ⟨h1, _⟩ | ⟨j, h1, h2, h3, h4⟩
            · omega
            · exact ⟨j, h1, by rw [show N = N - p by omega]; exact h2, h3, h4⟩
          have hr := seekF_eq hbt hac hjn
          have HR := Lib.hid (show seekRes (i : Int) 102 (seekAt s m x N 102) = ⟨i, j, 1, false, -1, true⟩ from by
            rw [show seekAt s m x N 102 = seekF s m x N from rfl, hr]; rfl)
          subst hp0
          clear hr hbt hac hcn hA hJ1 hJ2
          by_cases hJn : J < s.size
          · go_wp2_with fail
            refine (hto j _).mono ?_
            rintro e w3 ⟨rfl, hb_w3⟩
            have hT3 := hT1.on hb_w3
            clear p0 p1 m0 m1 m2 m3 m4 z
            have hV4 := MvAt.new w3 i j 0 (-1) false
            have hT4 := hT3.on ((Below.refl _ w3).alloc (Nat.le_refl _) (.cells #[.int .i64 (i : Int), .int .i64 (j : Int), .int .i64 0, .bool false, .int .i64 (-1)] 32))
            have hg0 : w.heap.size + 2 ≤ w3.heap.size := hT3.size
            clear hto
            go_upto_region 25 with fail
            obtain ⟨w4, hw4⟩ : ∃ w4, w4 = w3.alloc (.cells #[.int .i64 (i : Int), .int .i64 (j : Int), .int .i64 0, .bool false, .int .i64 (-1)] 32) := ⟨_, rfl⟩
            rw [← hw4] at hT4 hV4 ⊢
            obtain ⟨g, hg⟩ : ∃ g, g = w3.heap.size := ⟨_, rfl⟩
            rw [← hg] at hV4 hg0 ⊢
            clear hw4 hg
            have v0 := hV4.c0
            have v1 := hV4.c1
            have v2 := hV4.c2
            have v3 := hV4.c3
            have v4 := hV4.c4
            have zv := hV4.z
            have hT5 := hT4.set hg0 2 (.int .i64 1)
            have hV5 := hV4.set2 1
            go_upto_region 33 with fail
            obtain ⟨w5, hw5⟩ : ∃ w5, w5 = w4.setCell ⟨g, 2, none⟩ (.int .i64 1) := ⟨_, rfl⟩
            rw [← hw5] at hT5 hV5 ⊢
            clear v0 v1 v2 v3 v4 zv hw5
            have v0 := hV5.c0
            have v1 := hV5.c1
            have v2 := hV5.c2
            have v3 := hV5.c3
            have v4 := hV5.c4
            have zv := hV5.z
            have p0 := hT5.pos.c0
            have p1 := hT5.pos.c1
            have m0 := hT5.mv.c0
            have m1 := hT5.mv.c1
            have m2 := hT5.mv.c2
            have m3 := hT5.mv.c3
            have m4 := hT5.mv.c4
            have z := hT5.mv.z
            go_wp2
            obtain ⟨hg, hb⟩ := hT5.ret i j 1 (-1) false
            exact ret_mv (r := ⟨i, j, 1, false, -1, true⟩) (g := w.heap.size + 1) rfl rfl rfl rfl hg ⟨by rw [HR.out], hb⟩
          · go_wp2_with fail
            refine (hto j _).mono ?_
            rintro e w3 ⟨rfl, hb_w3⟩
            have hT3 := hT1.on hb_w3
            clear p0 p1 m0 m1 m2 m3 m4 z
            have hV4 := MvAt.new w3 i j 0 (-1) false
            have hT4 := hT3.on ((Below.refl _ w3).alloc (Nat.le_refl _) (.cells #[.int .i64 (i : Int), .int .i64 (j : Int), .int .i64 0, .bool false, .int .i64 (-1)] 32))
            have hg0 : w.heap.size + 2 ≤ w3.heap.size := hT3.size
            clear hto
            go_upto_region 25 with fail
            obtain ⟨w4, hw4⟩ : ∃ w4, w4 = w3.alloc (.cells #[.int .i64 (i : Int), .int .i64 (j : Int), .int .i64 0, .bool false, .int .i64 (-1)] 32) := ⟨_, rfl⟩
            rw [← hw4] at hT4 hV4 ⊢
            obtain ⟨g, hg⟩ : ∃ g, g = w3.heap.size := ⟨_, rfl⟩
            rw [← hg] at hV4 hg0 ⊢
            clear hw4 hg
            have v0 := hV4.c0
            have v1 := hV4.c1
            have v2 := hV4.c2
            have v3 := hV4.c3
            have v4 := hV4.c4
            have zv := hV4.z
            have hT5 := hT4.set hg0 2 (.int .i64 1)
            have hV5 := hV4.set2 1
            go_upto_region 33 with fail
            obtain ⟨w5, hw5⟩ : ∃ w5, w5 = w4.setCell ⟨g, 2, none⟩ (.int .i64 1) := ⟨_, rfl⟩
            rw [← hw5] at hT5 hV5 ⊢
            clear v0 v1 v2 v3 v4 zv hw5
            have v0 := hV5.c0
            have v1 := hV5.c1
            have v2 := hV5.c2
            have v3 := hV5.c3
            have v4 := hV5.c4
            have zv := hV5.z
            have p0 := hT5.pos.c0
            have p1 := hT5.pos.c1
            have m0 := hT5.mv.c0
            have m1 := hT5.mv.c1
            have m2 := hT5.mv.c2
            have m3 := hT5.mv.c3
            have m4 := hT5.mv.c4
            have z := hT5.mv.z
            go_wp2
            obtain ⟨hg, hb⟩ := hT5.ret i j 1 (-1) false
            exact ret_mv (r := ⟨i, j, 1, false, -1, true⟩) (g := w.heap.size + 1) rfl rfl rfl rfl hg ⟨by rw [HR.out], hb⟩
        · by_cases hJn : J < s.size
          · have hp1 : 0 < p := by omega
            have hpN : p ≤ N := by have := hcn.out; omega
            have e3 : IntKind.i64.wrap ((p : Int) - 1) = ((p - 1 : Nat) : Int) := by rw [IntKind.wrap_i64]; omega
            by_cases hc : atc s J = x
            · have hb : (((s[J]'hJn).toNat : Int) == x) = true := by rw [beq_iff_eq, ← hc, atc_in hJn]
              have HC := Lib.hid hc
              clear hc
              obtain ⟨p', hp'⟩ : ∃ p', p' = p - 1 := ⟨_, rfl⟩
              rw [← hp'] at e3
              have HP := Lib.hid (And.intro hp' hpN)
              clear hp' hpN
              go_wp2
              go_round
              case rel => exact ⟨J + 1, p', J, by omega, .inl (by omega), by go_num, rfl, rfl, by
                have h1 := hcn.out
                have h2 := HP.out
                show _ = _
                rw [show J + 1 - (m + 1) = (J - (m + 1)) + 1 by omega, cntc_yes (by rw [show m + 1 + (J - (m + 1)) = J by omega]; exact HC.out)]; omega, .inr ⟨J, rfl, ⟨by omega, by omega, by
                have h1 := hcn.out
                have h2 := HP.out
                omega⟩, HC.out, hJn⟩⟩
              case measure => simp [RowKit.intOf]; omega
            · have hb : (((s[J]'hJn).toNat : Int) == x) = false := by rw [beq_eq_false_iff_ne, ← atc_in hJn]; exact hc
              have HC := Lib.hid hc
              clear hc e3 hpN
              go_wp2
              go_round
              case rel => exact ⟨J + 1, p, A, by omega, .inl (by omega), by go_num, rfl, rfl, by
                have h1 := hcn.out
                show _ = _
                rw [show J + 1 - (m + 1) = (J - (m + 1)) + 1 by omega, cntc_no (by rw [show m + 1 + (J - (m + 1)) = J by omega]; exact HC.out)]; exact h1, hA⟩
              case measure => simp [RowKit.intOf]; omega
          · have hr : seekF s m x N = none := seekF_no (by have := hcn.out; rw [show s.size - (m + 1) = J - (m + 1) by omega]; omega)
            have HR := Lib.hid (show seekRes (i : Int) 102 (seekAt s m x N 102) = R.no from by rw [show seekAt s m x N 102 = seekF s m x N from rfl, hr]; rfl)
            have hp1 : 0 < p := by omega
            clear hr hcn hA hp0
            go_wp2_with fail
            refine (none_any' _).mono ?_
            rintro e w8 ⟨rfl, hb_w8⟩
            have hT8 := hT1.on hb_w8
            clear p0 p1 m0 m1 m2 m3 m4 z
            have p0 := hT8.pos.c0
            have p1 := hT8.pos.c1
            have m0 := hT8.mv.c0
            have m1 := hT8.mv.c1
            have m2 := hT8.mv.c2
            have m3 := hT8.mv.c3
            have m4 := hT8.mv.c4
            have z := hT8.mv.z
            go_wp2
            obtain ⟨hg, hb⟩ := hT8.ret 0 0 0 0 false
            exact ret_mv (r := R.no) (g := w.heap.size + 1) rfl rfl rfl rfl hg ⟨by rw [HR.out], hb⟩
    by_cases hk116 : key = 116
    · subst hk116
      go_enter Try.func26, Try.ntmps26
      go_wp2_with fail
      rw [← HX.out]
      refine (h1).mono ?_
      rintro e w1 ⟨rfl, hb_w1⟩
      have hT1 := hT.on hb_w1
      clear p0 p1 m0 m1 m2 m3 m4 z h1
      have p0 := hT1.pos.c0
      have p1 := hT1.pos.c1
      have m0 := hT1.mv.c0
      have m1 := hT1.mv.c1
      have m2 := hT1.mv.c2
      have m3 := hT1.mv.c3
      have m4 := hT1.mv.c4
      have z := hT1.mv.z
      have hc1 := cell_later (hT.below.trans (hb_w1.mono hT.below.size)) hcell
      have ew := wrap_inc m (by omega)
      clear hT hcell
      go_wp2
      go_loop [4, 13, 14] (fun u v i => ∃ J p : Nat, ∃ A : Int, m + 1 ≤ J ∧ (J ≤ s.size ∨ J = m + 1) ∧ i = .int .i64 J ∧ u = .int .i64 p ∧ v = .int .i64 A ∧ Hid (p + cntc s x (m + 1) (J - (m + 1)) = N) ∧ Hid ((p = N ∧ A = -1) ∨ ∃ j : Nat, A = j ∧ Between s x (N - p) m j ∧ atc s j = x ∧ j < s.size)) (fun _ _ i => s.size + 1 - (RowKit.intOf i).toNat)
      case atStart => exact ⟨m + 1, N, -1, by omega, .inr rfl, by go_num, rfl, rfl, by rw [Nat.sub_self]; rfl, .inl ⟨rfl, rfl⟩⟩
      case round =>
        obtain ⟨J, p, A, hJ1, hJ2, rfl, rfl, rfl, hcn, hA⟩ := hrel
        clear ew
        by_cases hp0 : p = 0
        · obtain ⟨j, rfl, hbt, hac, hjn⟩ : ∃ j : Nat, A = j ∧ Between s x N m j ∧ atc s j = x ∧ j < s.size := by
            rcases hA.out with ⟨h1, _⟩ | ⟨j, h1, h2, h3, h4⟩
            · omega
            · exact ⟨j, h1, by rw [show N = N - p by omega]; exact h2, h3, h4⟩
          have hr := seekF_eq hbt hac hjn
          have HR := Lib.hid (show seekRes (i : Int) 116 (seekAt s m x N 116) = ⟨i, (j : Int) - 1, 1, false, -1, true⟩ from by
            rw [show seekAt s m x N 116 = seekF s m x N from rfl, hr]; rfl)
          subst hp0
          clear hr hbt hac hcn hA hJ1 hJ2
          by_cases hJn : J < s.size
          · go_wp2_with fail
            refine (hto j _).mono ?_
            rintro e w3 ⟨rfl, hb_w3⟩
            have hT3 := hT1.on hb_w3
            clear p0 p1 m0 m1 m2 m3 m4 z
            have hV4 := MvAt.new w3 i j 0 (-1) false
            have hT4 := hT3.on ((Below.refl _ w3).alloc (Nat.le_refl _) (.cells #[.int .i64 (i : Int), .int .i64 (j : Int), .int .i64 0, .bool false, .int .i64 (-1)] 32))
            have hg0 : w.heap.size + 2 ≤ w3.heap.size := hT3.size
            clear hto
            go_upto_region 25 with fail
            obtain ⟨w4, hw4⟩ : ∃ w4, w4 = w3.alloc (.cells #[.int .i64 (i : Int), .int .i64 (j : Int), .int .i64 0, .bool false, .int .i64 (-1)] 32) := ⟨_, rfl⟩
            rw [← hw4] at hT4 hV4 ⊢
            obtain ⟨g, hg⟩ : ∃ g, g = w3.heap.size := ⟨_, rfl⟩
            rw [← hg] at hV4 hg0 ⊢
            clear hw4 hg
            have v0 := hV4.c0
            have v1 := hV4.c1
            have v2 := hV4.c2
            have v3 := hV4.c3
            have v4 := hV4.c4
            have zv := hV4.z
            have hT5 := (hT4.set hg0 2 (.int .i64 1)).set hg0 1 (.int .i64 ((j : Int) - 1))
            have hV5 := (hV4.set2 1).set1 ((j : Int) - 1)
            have ea := wrap_dec j (by omega)
            have u1 := (hV4.set2 1).c1
            have y1 := (hV4.set2 1).z
            go_upto_region 33 with fail
            obtain ⟨w5, hw5⟩ : ∃ w5, w5 = (w4.setCell ⟨g, 2, none⟩ (.int .i64 1)).setCell ⟨g, 1, none⟩ (.int .i64 ((j : Int) - 1)) := ⟨_, rfl⟩
            rw [← hw5] at hT5 hV5 ⊢
            clear v0 v1 v2 v3 v4 zv hw5 ea u1 y1
            have v0 := hV5.c0
            have v1 := hV5.c1
            have v2 := hV5.c2
            have v3 := hV5.c3
            have v4 := hV5.c4
            have zv := hV5.z
            have p0 := hT5.pos.c0
            have p1 := hT5.pos.c1
            have m0 := hT5.mv.c0
            have m1 := hT5.mv.c1
            have m2 := hT5.mv.c2
            have m3 := hT5.mv.c3
            have m4 := hT5.mv.c4
            have z := hT5.mv.z
            go_wp2
            obtain ⟨hg, hb⟩ := hT5.ret i ((j : Int) - 1) 1 (-1) false
            exact ret_mv (r := ⟨i, ((j : Int) - 1), 1, false, -1, true⟩) (g := w.heap.size + 1) rfl rfl rfl rfl hg ⟨by rw [HR.out], hb⟩
          · go_wp2_with fail
            refine (hto j _).mono ?_
            rintro e w3 ⟨rfl, hb_w3⟩
            have hT3 := hT1.on hb_w3
            clear p0 p1 m0 m1 m2 m3 m4 z
            have hV4 := MvAt.new w3 i j 0 (-1) false
            have hT4 := hT3.on ((Below.refl _ w3).alloc (Nat.le_refl _) (.cells #[.int .i64 (i : Int), .int .i64 (j : Int), .int .i64 0, .bool false, .int .i64 (-1)] 32))
            have hg0 : w.heap.size + 2 ≤ w3.heap.size := hT3.size
            clear hto
            go_upto_region 25 with fail
            obtain ⟨w4, hw4⟩ : ∃ w4, w4 = w3.alloc (.cells #[.int .i64 (i : Int), .int .i64 (j : Int), .int .i64 0, .bool false, .int .i64 (-1)] 32) := ⟨_, rfl⟩
            rw [← hw4] at hT4 hV4 ⊢
            obtain ⟨g, hg⟩ : ∃ g, g = w3.heap.size := ⟨_, rfl⟩
            rw [← hg] at hV4 hg0 ⊢
            clear hw4 hg
            have v0 := hV4.c0
            have v1 := hV4.c1
            have v2 := hV4.c2
            have v3 := hV4.c3
            have v4 := hV4.c4
            have zv := hV4.z
            have hT5 := (hT4.set hg0 2 (.int .i64 1)).set hg0 1 (.int .i64 ((j : Int) - 1))
            have hV5 := (hV4.set2 1).set1 ((j : Int) - 1)
            have ea := wrap_dec j (by omega)
            have u1 := (hV4.set2 1).c1
            have y1 := (hV4.set2 1).z
            go_upto_region 33 with fail
            obtain ⟨w5, hw5⟩ : ∃ w5, w5 = (w4.setCell ⟨g, 2, none⟩ (.int .i64 1)).setCell ⟨g, 1, none⟩ (.int .i64 ((j : Int) - 1)) := ⟨_, rfl⟩
            rw [← hw5] at hT5 hV5 ⊢
            clear v0 v1 v2 v3 v4 zv hw5 ea u1 y1
            have v0 := hV5.c0
            have v1 := hV5.c1
            have v2 := hV5.c2
            have v3 := hV5.c3
            have v4 := hV5.c4
            have zv := hV5.z
            have p0 := hT5.pos.c0
            have p1 := hT5.pos.c1
            have m0 := hT5.mv.c0
            have m1 := hT5.mv.c1
            have m2 := hT5.mv.c2
            have m3 := hT5.mv.c3
            have m4 := hT5.mv.c4
            have z := hT5.mv.z
            go_wp2
            obtain ⟨hg, hb⟩ := hT5.ret i ((j : Int) - 1) 1 (-1) false
            exact ret_mv (r := ⟨i, ((j : Int) - 1), 1, false, -1, true⟩) (g := w.heap.size + 1) rfl rfl rfl rfl hg ⟨by rw [HR.out], hb⟩
        · by_cases hJn : J < s.size
          · have hp1 : 0 < p := by omega
            have hpN : p ≤ N := by have := hcn.out; omega
            have e3 : IntKind.i64.wrap ((p : Int) - 1) = ((p - 1 : Nat) : Int) := by rw [IntKind.wrap_i64]; omega
            by_cases hc : atc s J = x
            · have hb : (((s[J]'hJn).toNat : Int) == x) = true := by rw [beq_iff_eq, ← hc, atc_in hJn]
              have HC := Lib.hid hc
              clear hc
              obtain ⟨p', hp'⟩ : ∃ p', p' = p - 1 := ⟨_, rfl⟩
              rw [← hp'] at e3
              have HP := Lib.hid (And.intro hp' hpN)
              clear hp' hpN
              go_wp2
              go_round
              case rel => exact ⟨J + 1, p', J, by omega, .inl (by omega), by go_num, rfl, rfl, by
                have h1 := hcn.out
                have h2 := HP.out
                show _ = _
                rw [show J + 1 - (m + 1) = (J - (m + 1)) + 1 by omega, cntc_yes (by rw [show m + 1 + (J - (m + 1)) = J by omega]; exact HC.out)]; omega, .inr ⟨J, rfl, ⟨by omega, by omega, by
                have h1 := hcn.out
                have h2 := HP.out
                omega⟩, HC.out, hJn⟩⟩
              case measure => simp [RowKit.intOf]; omega
            · have hb : (((s[J]'hJn).toNat : Int) == x) = false := by rw [beq_eq_false_iff_ne, ← atc_in hJn]; exact hc
              have HC := Lib.hid hc
              clear hc e3 hpN
              go_wp2
              go_round
              case rel => exact ⟨J + 1, p, A, by omega, .inl (by omega), by go_num, rfl, rfl, by
                have h1 := hcn.out
                show _ = _
                rw [show J + 1 - (m + 1) = (J - (m + 1)) + 1 by omega, cntc_no (by rw [show m + 1 + (J - (m + 1)) = J by omega]; exact HC.out)]; exact h1, hA⟩
              case measure => simp [RowKit.intOf]; omega
          · have hr : seekF s m x N = none := seekF_no (by have := hcn.out; rw [show s.size - (m + 1) = J - (m + 1) by omega]; omega)
            have HR := Lib.hid (show seekRes (i : Int) 116 (seekAt s m x N 116) = R.no from by rw [show seekAt s m x N 116 = seekF s m x N from rfl, hr]; rfl)
            have hp1 : 0 < p := by omega
            clear hr hcn hA hp0
            go_wp2_with fail
            refine (none_any' _).mono ?_
            rintro e w8 ⟨rfl, hb_w8⟩
            have hT8 := hT1.on hb_w8
            clear p0 p1 m0 m1 m2 m3 m4 z
            have p0 := hT8.pos.c0
            have p1 := hT8.pos.c1
            have m0 := hT8.mv.c0
            have m1 := hT8.mv.c1
            have m2 := hT8.mv.c2
            have m3 := hT8.mv.c3
            have m4 := hT8.mv.c4
            have z := hT8.mv.z
            go_wp2
            obtain ⟨hg, hb⟩ := hT8.ret 0 0 0 0 false
            exact ret_mv (r := R.no) (g := w.heap.size + 1) rfl rfl rfl rfl hg ⟨by rw [HR.out], hb⟩
    by_cases hk70 : key = 70
    · subst hk70
      go_enter Try.func26, Try.ntmps26
      go_wp2_with fail
      rw [← HX.out]
      refine (h1).mono ?_
      rintro e w1 ⟨rfl, hb_w1⟩
      have hT1 := hT.on hb_w1
      clear p0 p1 m0 m1 m2 m3 m4 z h1
      have p0 := hT1.pos.c0
      have p1 := hT1.pos.c1
      have m0 := hT1.mv.c0
      have m1 := hT1.mv.c1
      have m2 := hT1.mv.c2
      have m3 := hT1.mv.c3
      have m4 := hT1.mv.c4
      have z := hT1.mv.z
      have hc1 := cell_later (hT.below.trans (hb_w1.mono hT.below.size)) hcell
      have ew := wrap_dec m (by omega)
      have en : (if s.size < m then (s.size : Int) else (m : Int)) = m := if_neg (by omega)
      have en2 : min (m : Int) (s.size : Int) = m := by omega
      have en3 : ¬ s.size < m := by omega
      clear hT hcell
      go_wp2
      go_loop [4, 13, 15] (fun u v i => ∃ q p : Nat, ∃ A : Int, q ≤ m ∧ i = .int .i64 ((q : Int) - 1) ∧ u = .int .i64 p ∧ v = .int .i64 A ∧ Hid (p + cntc s x q (m - q) = N) ∧ Hid ((p = N ∧ A = -1) ∨ ∃ j : Nat, A = j ∧ Between s x (N - p) j m ∧ atc s j = x)) (fun _ _ i => (RowKit.intOf i + 1).toNat)
      case atStart => exact ⟨m, N, -1, Nat.le_refl _, rfl, rfl, rfl, by rw [Nat.sub_self]; rfl, .inl ⟨rfl, rfl⟩⟩
      case round =>
        obtain ⟨q, p, A, hqm, rfl, rfl, rfl, hcn, hA⟩ := hrel
        clear ew en en2 en3
        by_cases hp0 : p = 0
        · obtain ⟨j, rfl, hbt, hac⟩ : ∃ j : Nat, A = j ∧ Between s x N j m ∧ atc s j = x := by
            rcases hA.out with ⟨h1, _⟩ | ⟨j, h1, h2, h3⟩
            · omega
            · exact ⟨j, h1, by rw [show N = N - p by omega]; exact h2, h3⟩
          have hr := seekB_eq hbt hac
          have hjn : j < s.size := by have := hbt.1; omega
          have HR := Lib.hid (show seekRes (i : Int) 70 (seekAt s m x N 70) = ⟨i, j, 0, false, -1, true⟩ from by
            rw [show seekAt s m x N 70 = seekB s m x N from rfl, hr]; rfl)
          subst hp0
          clear hr hbt hac hcn hA
          by_cases hq0 : 1 ≤ q
          · have hq2 : 0 ≤ (q : Int) - 1 := by omega
            go_wp2_with fail
            refine (hto j _).mono ?_
            rintro e w3 ⟨rfl, hb_w3⟩
            have hT3 := hT1.on hb_w3
            clear p0 p1 m0 m1 m2 m3 m4 z
            have hV4 := MvAt.new w3 i j 0 (-1) false
            have hT4 := hT3.on ((Below.refl _ w3).alloc (Nat.le_refl _) (.cells #[.int .i64 (i : Int), .int .i64 (j : Int), .int .i64 0, .bool false, .int .i64 (-1)] 32))
            have hg0 : w.heap.size + 2 ≤ w3.heap.size := hT3.size
            clear hto
            go_upto_region 25 with fail
            obtain ⟨w4, hw4⟩ : ∃ w4, w4 = w3.alloc (.cells #[.int .i64 (i : Int), .int .i64 (j : Int), .int .i64 0, .bool false, .int .i64 (-1)] 32) := ⟨_, rfl⟩
            rw [← hw4] at hT4 hV4 ⊢
            obtain ⟨g, hg⟩ : ∃ g, g = w3.heap.size := ⟨_, rfl⟩
            rw [← hg] at hV4 hg0 ⊢
            clear hw4 hg
            have v0 := hV4.c0
            have v1 := hV4.c1
            have v2 := hV4.c2
            have v3 := hV4.c3
            have v4 := hV4.c4
            have zv := hV4.z
            have hT5 := hT4
            have hV5 := hV4
            go_upto_region 33 with fail
            clear v0 v1 v2 v3 v4 zv
            have v0 := hV5.c0
            have v1 := hV5.c1
            have v2 := hV5.c2
            have v3 := hV5.c3
            have v4 := hV5.c4
            have zv := hV5.z
            have p0 := hT5.pos.c0
            have p1 := hT5.pos.c1
            have m0 := hT5.mv.c0
            have m1 := hT5.mv.c1
            have m2 := hT5.mv.c2
            have m3 := hT5.mv.c3
            have m4 := hT5.mv.c4
            have z := hT5.mv.z
            go_wp2
            obtain ⟨hg, hb⟩ := hT5.ret i j 0 (-1) false
            exact ret_mv (r := ⟨i, j, 0, false, -1, true⟩) (g := w.heap.size + 1) rfl rfl rfl rfl hg ⟨by rw [HR.out], hb⟩
          · have hq2 : ¬ 0 ≤ (q : Int) - 1 := by omega
            go_wp2_with fail
            refine (hto j _).mono ?_
            rintro e w3 ⟨rfl, hb_w3⟩
            have hT3 := hT1.on hb_w3
            clear p0 p1 m0 m1 m2 m3 m4 z
            have hV4 := MvAt.new w3 i j 0 (-1) false
            have hT4 := hT3.on ((Below.refl _ w3).alloc (Nat.le_refl _) (.cells #[.int .i64 (i : Int), .int .i64 (j : Int), .int .i64 0, .bool false, .int .i64 (-1)] 32))
            have hg0 : w.heap.size + 2 ≤ w3.heap.size := hT3.size
            clear hto
            go_upto_region 25 with fail
            obtain ⟨w4, hw4⟩ : ∃ w4, w4 = w3.alloc (.cells #[.int .i64 (i : Int), .int .i64 (j : Int), .int .i64 0, .bool false, .int .i64 (-1)] 32) := ⟨_, rfl⟩
            rw [← hw4] at hT4 hV4 ⊢
            obtain ⟨g, hg⟩ : ∃ g, g = w3.heap.size := ⟨_, rfl⟩
            rw [← hg] at hV4 hg0 ⊢
            clear hw4 hg
            have v0 := hV4.c0
            have v1 := hV4.c1
            have v2 := hV4.c2
            have v3 := hV4.c3
            have v4 := hV4.c4
            have zv := hV4.z
            have hT5 := hT4
            have hV5 := hV4
            go_upto_region 33 with fail
            clear v0 v1 v2 v3 v4 zv
            have v0 := hV5.c0
            have v1 := hV5.c1
            have v2 := hV5.c2
            have v3 := hV5.c3
            have v4 := hV5.c4
            have zv := hV5.z
            have p0 := hT5.pos.c0
            have p1 := hT5.pos.c1
            have m0 := hT5.mv.c0
            have m1 := hT5.mv.c1
            have m2 := hT5.mv.c2
            have m3 := hT5.mv.c3
            have m4 := hT5.mv.c4
            have z := hT5.mv.z
            go_wp2
            obtain ⟨hg, hb⟩ := hT5.ret i j 0 (-1) false
            exact ret_mv (r := ⟨i, j, 0, false, -1, true⟩) (g := w.heap.size + 1) rfl rfl rfl rfl hg ⟨by rw [HR.out], hb⟩
        · by_cases hq0 : 1 ≤ q
          · have hp1 : 0 < p := by omega
            obtain ⟨J, rfl⟩ : ∃ J, q = J + 1 := ⟨q - 1, by omega⟩
            have hJn : J < s.size := by omega
            have ej : ((J + 1 : Nat) : Int) - 1 = J := by omega
            rw [ej]
            have ed := wrap_dec J (by omega)
            have hpN : p ≤ N := by have := hcn.out; omega
            have e3 : IntKind.i64.wrap ((p : Int) - 1) = ((p - 1 : Nat) : Int) := by rw [IntKind.wrap_i64]; omega
            have hstep : cntc s x J (m - J) = (if atc s J = x then 1 else 0) + cntc s x (J + 1) (m - (J + 1)) := by
              rw [show m - J = (m - (J + 1)) + 1 by omega, cntc_front]
            have HS := Lib.hid hstep
            clear ej hstep
            by_cases hc : atc s J = x
            · have hb : (((s[J]'hJn).toNat : Int) == x) = true := by rw [beq_iff_eq, ← hc, atc_in hJn]
              have HC := Lib.hid hc
              clear hc
              obtain ⟨p', hp'⟩ : ∃ p', p' = p - 1 := ⟨_, rfl⟩
              rw [← hp'] at e3
              have HP := Lib.hid (And.intro hp' hpN)
              clear hp' hpN
              go_wp2
              go_round
              case rel => exact ⟨J, p', J, by omega, rfl, rfl, rfl, by
                have h1 := hcn.out
                have h2 := HP.out
                show _ = _
                rw [HS.out, if_pos HC.out]; omega, .inr ⟨J, rfl, ⟨by omega, by omega, by
                have h1 := hcn.out
                have h2 := HP.out
                omega⟩, HC.out⟩⟩
              case measure => simp [RowKit.intOf] <;> omega
            · have hb : (((s[J]'hJn).toNat : Int) == x) = false := by rw [beq_eq_false_iff_ne, ← atc_in hJn]; exact hc
              have HC := Lib.hid hc
              clear hc e3 hpN
              go_wp2
              go_round
              case rel => exact ⟨J, p, A, by omega, rfl, rfl, rfl, by
                have h1 := hcn.out
                show _ = _
                rw [HS.out, if_neg HC.out]; omega, hA⟩
              case measure => simp [RowKit.intOf] <;> omega
          · obtain rfl : q = 0 := by omega
            have hr : seekB s m x N = none := seekB_no (by have := hcn.out; rw [Nat.sub_zero] at this; omega)
            have HR := Lib.hid (show seekRes (i : Int) 70 (seekAt s m x N 70) = R.no from by rw [show seekAt s m x N 70 = seekB s m x N from rfl, hr]; rfl)
            have hp1 : 0 < p := by omega
            clear hr hcn hA hp0
            go_wp2_with fail
            refine (none_any' _).mono ?_
            rintro e w8 ⟨rfl, hb_w8⟩
            have hT8 := hT1.on hb_w8
            clear p0 p1 m0 m1 m2 m3 m4 z
            have p0 := hT8.pos.c0
            have p1 := hT8.pos.c1
            have m0 := hT8.mv.c0
            have m1 := hT8.mv.c1
            have m2 := hT8.mv.c2
            have m3 := hT8.mv.c3
            have m4 := hT8.mv.c4
            have z := hT8.mv.z
            go_wp2
            obtain ⟨hg, hb⟩ := hT8.ret 0 0 0 0 false
            exact ret_mv (r := R.no) (g := w.heap.size + 1) rfl rfl rfl rfl hg ⟨by rw [HR.out], hb⟩
    by_cases hk84 : key = 84
    · subst hk84
      go_enter Try.func26, Try.ntmps26
      go_wp2_with fail
      rw [← HX.out]
      refine (h1).mono ?_
      rintro e w1 ⟨rfl, hb_w1⟩
      have hT1 := hT.on hb_w1
      clear p0 p1 m0 m1 m2 m3 m4 z h1
      have p0 := hT1.pos.c0
      have p1 := hT1.pos.c1
      have m0 := hT1.mv.c0
      have m1 := hT1.mv.c1
      have m2 := hT1.mv.c2
      have m3 := hT1.mv.c3
      have m4 := hT1.mv.c4
      have z := hT1.mv.z
      have hc1 := cell_later (hT.below.trans (hb_w1.mono hT.below.size)) hcell
      have ew := wrap_dec m (by omega)
      have en : (if s.size < m then (s.size : Int) else (m : Int)) = m := if_neg (by omega)
      have en2 : min (m : Int) (s.size : Int) = m := by omega
      have en3 : ¬ s.size < m := by omega
      clear hT hcell
      go_wp2
      go_loop [4, 13, 15] (fun u v i => ∃ q p : Nat, ∃ A : Int, q ≤ m ∧ i = .int .i64 ((q : Int) - 1) ∧ u = .int .i64 p ∧ v = .int .i64 A ∧ Hid (p + cntc s x q (m - q) = N) ∧ Hid ((p = N ∧ A = -1) ∨ ∃ j : Nat, A = j ∧ Between s x (N - p) j m ∧ atc s j = x)) (fun _ _ i => (RowKit.intOf i + 1).toNat)
      case atStart => exact ⟨m, N, -1, Nat.le_refl _, rfl, rfl, rfl, by rw [Nat.sub_self]; rfl, .inl ⟨rfl, rfl⟩⟩
      case round =>
        obtain ⟨q, p, A, hqm, rfl, rfl, rfl, hcn, hA⟩ := hrel
        clear ew en en2 en3
        by_cases hp0 : p = 0
        · obtain ⟨j, rfl, hbt, hac⟩ : ∃ j : Nat, A = j ∧ Between s x N j m ∧ atc s j = x := by
            rcases hA.out with ⟨h1, _⟩ | ⟨j, h1, h2, h3⟩
            · omega
            · exact ⟨j, h1, by rw [show N = N - p by omega]; exact h2, h3⟩
          have hr := seekB_eq hbt hac
          have hjn : j < s.size := by have := hbt.1; omega
          have HR := Lib.hid (show seekRes (i : Int) 84 (seekAt s m x N 84) = ⟨i, (j : Int) + 1, 0, false, -1, true⟩ from by
            rw [show seekAt s m x N 84 = seekB s m x N from rfl, hr]; rfl)
          subst hp0
          clear hr hbt hac hcn hA
          by_cases hq0 : 1 ≤ q
          · have hq2 : 0 ≤ (q : Int) - 1 := by omega
            go_wp2_with fail
            refine (hto j _).mono ?_
            rintro e w3 ⟨rfl, hb_w3⟩
            have hT3 := hT1.on hb_w3
            clear p0 p1 m0 m1 m2 m3 m4 z
            have hV4 := MvAt.new w3 i j 0 (-1) false
            have hT4 := hT3.on ((Below.refl _ w3).alloc (Nat.le_refl _) (.cells #[.int .i64 (i : Int), .int .i64 (j : Int), .int .i64 0, .bool false, .int .i64 (-1)] 32))
            have hg0 : w.heap.size + 2 ≤ w3.heap.size := hT3.size
            clear hto
            go_upto_region 25 with fail
            obtain ⟨w4, hw4⟩ : ∃ w4, w4 = w3.alloc (.cells #[.int .i64 (i : Int), .int .i64 (j : Int), .int .i64 0, .bool false, .int .i64 (-1)] 32) := ⟨_, rfl⟩
            rw [← hw4] at hT4 hV4 ⊢
            obtain ⟨g, hg⟩ : ∃ g, g = w3.heap.size := ⟨_, rfl⟩
            rw [← hg] at hV4 hg0 ⊢
            clear hw4 hg
            have v0 := hV4.c0
            have v1 := hV4.c1
            have v2 := hV4.c2
            have v3 := hV4.c3
            have v4 := hV4.c4
            have zv := hV4.z
            have hT5 := hT4.set hg0 1 (.int .i64 ((j : Int) + 1))
            have hV5 := hV4.set1 ((j : Int) + 1)
            have ea := wrap_inc j (by omega)
            go_upto_region 33 with fail
            obtain ⟨w5, hw5⟩ : ∃ w5, w5 = w4.setCell ⟨g, 1, none⟩ (.int .i64 ((j : Int) + 1)) := ⟨_, rfl⟩
            rw [← hw5] at hT5 hV5 ⊢
            clear v0 v1 v2 v3 v4 zv hw5 ea
            have v0 := hV5.c0
            have v1 := hV5.c1
            have v2 := hV5.c2
            have v3 := hV5.c3
            have v4 := hV5.c4
            have zv := hV5.z
            have p0 := hT5.pos.c0
            have p1 := hT5.pos.c1
            have m0 := hT5.mv.c0
            have m1 := hT5.mv.c1
            have m2 := hT5.mv.c2
            have m3 := hT5.mv.c3
            have m4 := hT5.mv.c4
            have z := hT5.mv.z
            go_wp2
            obtain ⟨hg, hb⟩ := hT5.ret i ((j : Int) + 1) 0 (-1) false
            exact ret_mv (r := ⟨i, ((j : Int) + 1), 0, false, -1, true⟩) (g := w.heap.size + 1) rfl rfl rfl rfl hg ⟨by rw [HR.out], hb⟩
          · have hq2 : ¬ 0 ≤ (q : Int) - 1 := by omega
            go_wp2_with fail
            refine (hto j _).mono ?_
            rintro e w3 ⟨rfl, hb_w3⟩
            have hT3 := hT1.on hb_w3
            clear p0 p1 m0 m1 m2 m3 m4 z
            have hV4 := MvAt.new w3 i j 0 (-1) false
            have hT4 := hT3.on ((Below.refl _ w3).alloc (Nat.le_refl _) (.cells #[.int .i64 (i : Int), .int .i64 (j : Int), .int .i64 0, .bool false, .int .i64 (-1)] 32))
            have hg0 : w.heap.size + 2 ≤ w3.heap.size := hT3.size
            clear hto
            go_upto_region 25 with fail
            obtain ⟨w4, hw4⟩ : ∃ w4, w4 = w3.alloc (.cells #[.int .i64 (i : Int), .int .i64 (j : Int), .int .i64 0, .bool false, .int .i64 (-1)] 32) := ⟨_, rfl⟩
            rw [← hw4] at hT4 hV4 ⊢
            obtain ⟨g, hg⟩ : ∃ g, g = w3.heap.size := ⟨_, rfl⟩
            rw [← hg] at hV4 hg0 ⊢
            clear hw4 hg
            have v0 := hV4.c0
            have v1 := hV4.c1
            have v2 := hV4.c2
            have v3 := hV4.c3
            have v4 := hV4.c4
            have zv := hV4.z
            have hT5 := hT4.set hg0 1 (.int .i64 ((j : Int) + 1))
            have hV5 := hV4.set1 ((j : Int) + 1)
            have ea := wrap_inc j (by omega)
            go_upto_region 33 with fail
            obtain ⟨w5, hw5⟩ : ∃ w5, w5 = w4.setCell ⟨g, 1, none⟩ (.int .i64 ((j : Int) + 1)) := ⟨_, rfl⟩
            rw [← hw5] at hT5 hV5 ⊢
            clear v0 v1 v2 v3 v4 zv hw5 ea
            have v0 := hV5.c0
            have v1 := hV5.c1
            have v2 := hV5.c2
            have v3 := hV5.c3
            have v4 := hV5.c4
            have zv := hV5.z
            have p0 := hT5.pos.c0
            have p1 := hT5.pos.c1
            have m0 := hT5.mv.c0
            have m1 := hT5.mv.c1
            have m2 := hT5.mv.c2
            have m3 := hT5.mv.c3
            have m4 := hT5.mv.c4
            have z := hT5.mv.z
            go_wp2
            obtain ⟨hg, hb⟩ := hT5.ret i ((j : Int) + 1) 0 (-1) false
            exact ret_mv (r := ⟨i, ((j : Int) + 1), 0, false, -1, true⟩) (g := w.heap.size + 1) rfl rfl rfl rfl hg ⟨by rw [HR.out], hb⟩
        · by_cases hq0 : 1 ≤ q
          · have hp1 : 0 < p := by omega
            obtain ⟨J, rfl⟩ : ∃ J, q = J + 1 := ⟨q - 1, by omega⟩
            have hJn : J < s.size := by omega
            have ej : ((J + 1 : Nat) : Int) - 1 = J := by omega
            rw [ej]
            have ed := wrap_dec J (by omega)
            have hpN : p ≤ N := by have := hcn.out; omega
            have e3 : IntKind.i64.wrap ((p : Int) - 1) = ((p - 1 : Nat) : Int) := by rw [IntKind.wrap_i64]; omega
            have hstep : cntc s x J (m - J) = (if atc s J = x then 1 else 0) + cntc s x (J + 1) (m - (J + 1)) := by
              rw [show m - J = (m - (J + 1)) + 1 by omega, cntc_front]
            have HS := Lib.hid hstep
            clear ej hstep
            by_cases hc : atc s J = x
            · have hb : (((s[J]'hJn).toNat : Int) == x) = true := by rw [beq_iff_eq, ← hc, atc_in hJn]
              have HC := Lib.hid hc
              clear hc
              obtain ⟨p', hp'⟩ : ∃ p', p' = p - 1 := ⟨_, rfl⟩
              rw [← hp'] at e3
              have HP := Lib.hid (And.intro hp' hpN)
              clear hp' hpN
              go_wp2
              go_round
              case rel => exact ⟨J, p', J, by omega, rfl, rfl, rfl, by
                have h1 := hcn.out
                have h2 := HP.out
                show _ = _
                rw [HS.out, if_pos HC.out]; omega, .inr ⟨J, rfl, ⟨by omega, by omega, by
                have h1 := hcn.out
                have h2 := HP.out
                omega⟩, HC.out⟩⟩
              case measure => simp [RowKit.intOf] <;> omega
            · have hb : (((s[J]'hJn).toNat : Int) == x) = false := by rw [beq_eq_false_iff_ne, ← atc_in hJn]; exact hc
              have HC := Lib.hid hc
              clear hc e3 hpN
              go_wp2
              go_round
              case rel => exact ⟨J, p, A, by omega, rfl, rfl, rfl, by
                have h1 := hcn.out
                show _ = _
                rw [HS.out, if_neg HC.out]; omega, hA⟩
              case measure => simp [RowKit.intOf] <;> omega
          · obtain rfl : q = 0 := by omega
            have hr : seekB s m x N = none := seekB_no (by have := hcn.out; rw [Nat.sub_zero] at this; omega)
            have HR := Lib.hid (show seekRes (i : Int) 84 (seekAt s m x N 84) = R.no from by rw [show seekAt s m x N 84 = seekB s m x N from rfl, hr]; rfl)
            have hp1 : 0 < p := by omega
            clear hr hcn hA hp0
            go_wp2_with fail
            refine (none_any' _).mono ?_
            rintro e w8 ⟨rfl, hb_w8⟩
            have hT8 := hT1.on hb_w8
            clear p0 p1 m0 m1 m2 m3 m4 z
            have p0 := hT8.pos.c0
            have p1 := hT8.pos.c1
            have m0 := hT8.mv.c0
            have m1 := hT8.mv.c1
            have m2 := hT8.mv.c2
            have m3 := hT8.mv.c3
            have m4 := hT8.mv.c4
            have z := hT8.mv.z
            go_wp2
            obtain ⟨hg, hb⟩ := hT8.ret 0 0 0 0 false
            exact ret_mv (r := R.no) (g := w.heap.size + 1) rfl rfl rfl rfl hg ⟨by rw [HR.out], hb⟩
    have HR := Lib.hid (show seekRes (i : Int) key (seekAt s m x N key) = R.no from by rw [show seekAt s m x N key = none from by unfold seekAt; rw [if_neg (by omega), if_neg (by omega)]]; rfl)
    have k1 : (key == 102) = false := by rw [beq_eq_false_iff_ne]; exact hk102
    have k2 : (key == 116) = false := by rw [beq_eq_false_iff_ne]; exact hk116
    have k3 : (key == 70) = false := by rw [beq_eq_false_iff_ne]; exact hk70
    have k4 : (key == 84) = false := by rw [beq_eq_false_iff_ne]; exact hk84
    have hp1 : 0 < N := hN
    clear hk102 hk116 hk70 hk84 hto
    go_enter Try.func26, Try.ntmps26
    go_wp2_with fail
    rw [← HX.out]
    refine (h1).mono ?_
    rintro e w1 ⟨rfl, hb_w1⟩
    have hT1 := hT.on hb_w1
    clear p0 p1 m0 m1 m2 m3 m4 z h1
    have p0 := hT1.pos.c0
    have p1 := hT1.pos.c1
    have m0 := hT1.mv.c0
    have m1 := hT1.mv.c1
    have m2 := hT1.mv.c2
    have m3 := hT1.mv.c3
    have m4 := hT1.mv.c4
    have z := hT1.mv.z
    have hc1 := cell_later (hT.below.trans (hb_w1.mono hT.below.size)) hcell
    clear hT hcell
    go_wp2_with fail
    refine (none_any' _).mono ?_
    rintro e w8 ⟨rfl, hb_w8⟩
    have hT8 := hT1.on hb_w8
    clear p0 p1 m0 m1 m2 m3 m4 z
    have p0 := hT8.pos.c0
    have p1 := hT8.pos.c1
    have m0 := hT8.mv.c0
    have m1 := hT8.mv.c1
    have m2 := hT8.mv.c2
    have m3 := hT8.mv.c3
    have m4 := hT8.mv.c4
    have z := hT8.mv.z
    go_wp2
    obtain ⟨hg, hb⟩ := hT8.ret 0 0 0 0 false
    exact ret_mv (r := R.no) (g := w.heap.size + 1) rfl rfl rfl rfl hg ⟨by rw [HR.out], hb⟩
  · rw [decide_eq_false hp'] at h1
    have hr : (seekR ls l c key x k) = R.no := if_neg fun hh => hp' hh
    rw [hr]
    clear hr h hs hX hp'
    go_enter Try.func26, Try.ntmps26
    go_wp2_with fail
    rw [← HX.out]
    refine (h1).mono ?_
    rintro e w1 ⟨rfl, hb_w1⟩
    have hT1 := hT.on hb_w1
    clear p0 p1 m0 m1 m2 m3 m4 z h1 hT
    have p0 := hT1.pos.c0
    have p1 := hT1.pos.c1
    have m0 := hT1.mv.c0
    have m1 := hT1.mv.c1
    have m2 := hT1.mv.c2
    have m3 := hT1.mv.c3
    have m4 := hT1.mv.c4
    have z := hT1.mv.z
    go_wp2_with fail
    refine (none_any _).mono ?_
    rintro e w2 ⟨rfl, hb_w2⟩
    have hT2 := hT1.on hb_w2
    clear p0 p1 m0 m1 m2 m3 m4 z
    have p0 := hT2.pos.c0
    have p1 := hT2.pos.c1
    have m0 := hT2.mv.c0
    have m1 := hT2.mv.c1
    have m2 := hT2.mv.c2
    have m3 := hT2.mv.c3
    have m4 := hT2.mv.c4
    have z := hT2.mv.z
    go_wp2
    obtain ⟨hg, hb⟩ := hT2.ret 0 0 0 0 false
    exact ret_mv (r := R.no) (g := w.heap.size + 1) rfl rfl rfl rfl hg ⟨rfl, hb⟩

end Go.Proofs.Ytaekgempoaoioaa.Ch
