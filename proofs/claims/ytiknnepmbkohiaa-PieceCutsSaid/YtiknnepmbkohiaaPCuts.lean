/-
  The law PieceCuts, walked.
-/
import Derived.Test.YtiknnepmbkohiaaPLaw
import Derived.LoopTactic
set_option linter.unusedVariables false
namespace Go.Proofs.Ytiknnepmbkohiaa.PCu
open Go Go.RowKit Go.Proofs.Ytiknnepmbkohiaa.Vk Go.Shelf Go.Proofs.Ytiknnepmbkohiaa.Tb
attribute [local go_sem] Oper.semAt_some

theorem long (a : Option Addr) (n c : Nat) (off k : Int) (w : World) (hn : n ≤ 9223372036854775807) (h : 15 < n) :
    Calls Try.prog 6 #[.slice a n c, .int .u16 off, .int .u16 k] w fun e w' => e = .returned (.bool true) ∧ Below w.heap.size w w' := by
  go_enter Try.func6, Try.ntmps6
  go_wp2_with (go_at_call 9; refine (known_any _).mono ?_; rintro e w1 ⟨rfl, hb⟩)
  go_ret
  exact ⟨rfl, hb⟩

set_option maxHeartbeats 4000000 in
set_option maxRecDepth 100000 in
theorem short (a : Option Addr) (n c : Nat) (ls : List ByteArray) (off kk : Int) (w : World) (hs : SrcV w 1 (.slice a n c) n (ls.map .string)) (hn : n ≤ 15) (ho : 0 ≤ off ∧ off ≤ 65535) (hk : 0 ≤ kk ∧ kk ≤ 65535) :
    Calls Try.prog 6 #[.slice a n c, .int .u16 off, .int .u16 kk] w fun e w' => e = .returned (.bool true) ∧ Below w.heap.size w w' := by
  have hd : decide (15 < (n : Int)) = false := by simp; omega
  go_enter Try.func6, Try.ntmps6
  go_wp2_with (go_at_call 9; refine (known_any _).mono ?_; rintro e w1 ⟨rfl, hb1⟩)
  refine (new_ok ⟨#[]⟩ 2000 w1 (by decide) (by decide) (by omega)).mono ?_
  rintro e w2 ⟨t, F, np, rfl, ht, hb2⟩
  have hR0 : TRel w t (ByteArray.mk #[]).data.toList 2000 0 (41 * 0) w2 := ⟨hb1.trans (hb2.mono hb1.size), F, np, (ht.base_mono hb1.size).more (by decide)⟩
  have HR0 := Lib.hid hR0
  clear ht hb1 hb2 hR0
  go_wp2_with fail
  go_loopw [9, 10, 11] (fun u9 u10 u11 wr => ∃ (j e : Nat) (s : ByteArray), j ≤ n ∧ u11 = .int .i64 j ∧ u9 = .string s ∧ u10 = .int .i64 e ∧ s.size ≤ 40 * j ∧ e ≤ j ∧ Hid (TRel w t s.data.toList 2000 e (41 * j) wr)) (fun _ _ u11 _ => n - (RowKit.intOf u11).toNat)
  case atStart => exact ⟨0, 0, ⟨#[]⟩, Nat.zero_le _, rfl, rfl, rfl, by decide, Nat.le_refl _, HR0⟩
  case round =>
    obtain ⟨j, e, s, hj, rfl, rfl, rfl, hsz, he, hR⟩ := hrel
    have hsl := size_str s
    by_cases hjn : j < n
    · obtain ⟨hb, F', np', ht⟩ := hR.out
      have hll : ls.length = n := by have := hs.1; simpa using this
      obtain ⟨x, hx⟩ : ∃ x, (ls.map Value.string)[j]? = some (.string x) := ⟨ls[j]'(by omega), by rw [List.getElem?_map, List.getElem?_eq_getElem (by omega)]; rfl⟩
      obtain ⟨b, o, rfl, hcx, hnc, -⟩ := hs.at hx
      have hblk : b < w.heap.size := World.block_lt_of_cell? w _ hcx
      have hc1 : wr.cell? ⟨b, o + j, none⟩ = some (.string x) := (hb.cell (p := ⟨b, o + j, none⟩) hblk).trans hcx
      have hd3 : decide ((j : Int) < n) = true := by simp; omega
      by_cases hbig : 40 < x.size
      · have hd4 : decide (40 < (x.size : Int)) = true := by simp; omega
        have HB := Lib.hid hb
        clear hb ht hx hR
        go_wp2_with fail
        go_ret
        exact ⟨rfl, HB.out⟩
      · have hd4 : decide (40 < (x.size : Int)) = false := by simp; omega
        obtain ⟨k, hkd⟩ : ∃ k, k = j * s.size / (n + 1) := ⟨_, rfl⟩
        have hks : k ≤ s.size := by
          rw [hkd]
          refine Nat.div_le_of_le_mul (Nat.mul_le_mul_right _ (by omega))
        have hdv : (j : Int) * (s.size : Int) / ((n : Int) + 1) = (k : Int) := by rw [hkd]; simp
        have hjs : j * s.size ≤ 15 * 600 := Nat.mul_le_mul (by omega) (by omega)
        have hjs2 : ((j * s.size : Nat) : Int) = (j : Int) * (s.size : Int) := by simp
        have hw_1 : IntKind.i64.wrap ((j : Int) * (s.size : Int)) = (j : Int) * (s.size : Int) := by rw [IntKind.wrap_i64, ← hjs2]; omega
        have hw_2 : IntKind.i64.wrap ((n : Int) + 1) = (n : Int) + 1 := by rw [IntKind.wrap_i64]; omega
        have hnz : ((n : Int) + 1 == 0) = false := by simp; omega
        have hpos : (0 : Int) ≤ (j : Int) * (s.size : Int) := by rw [← hjs2]; omega
        have hins := insert_ok ht k x (by omega) (by omega) (by omega) (by omega)
        have HT := Lib.hid (And.intro hb ht)
        clear hb ht hx hkd hjs2
        go_wp2_with fail
        refine hins.mono ?_
        rintro e3 w3 ⟨rfl, hc3⟩
        have hR3 := TRel.change HT.out.1 HT.out.2 hc3
        have hc2 : w3.cell? ⟨b, o + j, none⟩ = some (.string x) := (hR3.1.cell (p := ⟨b, o + j, none⟩) hblk).trans hcx
        have hks' : (k : Int) ≤ s.size := by omega
        have hk0 : (0 : Int) ≤ k := by omega
        clear hc3 hins
        go_wp2_with fail
        go_quiet (fail)
        obtain ⟨u, hu⟩ : ∃ u, u = s.extract 0 k ++ x ++ s.extract k s.size := ⟨_, rfl⟩
        have hul : u.data.toList = s.data.toList.take k ++ x.data.toList ++ s.data.toList.drop k := by rw [hu, put_list]
        have hus : u.size = s.size + x.size := by rw [hu, put_size s x k hks]
        rw [← hu]
        rw [← hul] at hR3
        have hcq : (w3.drewN nq).cell? ⟨b, o + j, none⟩ = some (.string x) := hc2
        have hw_3 : IntKind.i64.wrap ((j : Int) + 1) = (j : Int) + 1 := by rw [IntKind.wrap_i64]; omega
        have hw_4 : IntKind.i64.wrap ((e : Int) + 1) = (e : Int) + 1 := by rw [IntKind.wrap_i64]; omega
        have hRq : TRel w t u.data.toList 2000 (e + nz x.size) (41 * (j + 1)) (w3.drewN nq) := by
          obtain ⟨hb, F5, np5, ht⟩ := hR3
          exact ⟨⟨hb.os, hb.tape, hb.output, hb.size, hb.block⟩, F5, np5, (ht.fr ((Fr.refl (fun _ => False) w3).drewN nq) (by simp)).more (by omega)⟩
        have HRQ := Lib.hid hRq
        clear hR3 hRq hu hul hc2 hpos hnz hw_1 hw_2 hjs hdv hks' hk0 hd4
        by_cases hx0 : x.size = 0
        · have hxe := empty_of_zero hx0
          rw [nz, if_pos hx0] at HRQ
          go_wp2
          go_roundw
          case rel => exact ⟨j + 1, e, u, by omega, by go_num, rfl, rfl, by omega, by omega, HRQ⟩
          case measure => simp [RowKit.intOf]; omega
        · have hxe := empty_of_pos (x := x) (by omega)
          rw [nz, if_neg hx0] at HRQ
          go_wp2
          go_roundw
          case rel => exact ⟨j + 1, e + 1, u, by omega, by go_num, rfl, by go_num, by omega, by omega, HRQ⟩
          case measure => simp [RowKit.intOf]; omega
    · obtain rfl : j = n := by omega
      obtain ⟨hb, F', np', ht⟩ := hR.out
      have hd3 : decide ((j : Int) < j) = false := by simp
      obtain ⟨p, hp⟩ : ∃ p : Nat, (p : Int) = off % ((s.size : Int) + 1) := ⟨(off % ((s.size : Int) + 1)).toNat, Int.toNat_of_nonneg (Int.emod_nonneg _ (by omega))⟩
      have hps : p ≤ s.size := by have := Int.emod_lt_of_pos off (b := (s.size : Int) + 1) (by omega); omega
      obtain ⟨q, hq⟩ : ∃ q : Nat, (q : Int) = kk % ((s.size : Int) - p + 1) := ⟨(kk % ((s.size : Int) - p + 1)).toNat, Int.toNat_of_nonneg (Int.emod_nonneg _ (by omega))⟩
      have hqs : p + q ≤ s.size := by have := Int.emod_lt_of_pos kk (b := (s.size : Int) - p + 1) (by omega); omega
      have hmp : off % ((s.size : Int) + 1) = (p : Int) := hp.symm
      have hmq : kk % ((s.size : Int) - p + 1) = (q : Int) := hq.symm
      have hw_1 : IntKind.i64.wrap off = off := by rw [IntKind.wrap_i64]; omega
      have hw_2 : IntKind.i64.wrap kk = kk := by rw [IntKind.wrap_i64]; omega
      have hw_3 : IntKind.i64.wrap ((s.size : Int) + 1) = (s.size : Int) + 1 := by rw [IntKind.wrap_i64]; omega
      have hw_4 : IntKind.i64.wrap ((s.size : Int) - p) = (s.size : Int) - p := by rw [IntKind.wrap_i64]; omega
      have hw_5 : IntKind.i64.wrap ((s.size : Int) - p + 1) = (s.size : Int) - p + 1 := by rw [IntKind.wrap_i64]; omega
      have hn1 : ((s.size : Int) + 1 == 0) = false := by simp; omega
      have hn2 : ((s.size : Int) - p + 1 == 0) = false := by simp; omega
      have hdel := delete_ok ht p q (by omega) (by omega) (by omega)
      have HT := Lib.hid (And.intro hb ht)
      clear hb ht hp hq
      go_wp2_with fail
      refine hdel.mono ?_
      rintro e3 w3 ⟨rfl, hc3⟩
      have hR3 := TRel.change HT.out.1 HT.out.2 hc3
      have hps' : (p : Int) ≤ s.size := by omega
      have hp0 : (0 : Int) ≤ p := by omega
      have hpq : (p : Int) + q ≤ s.size := by omega
      have hpq0 : (0 : Int) ≤ (p : Int) + q := by omega
      have hpqn : ((p : Int) + q).toNat = p + q := by omega
      have hw_6 : IntKind.i64.wrap ((p : Int) + q) = (p : Int) + q := by rw [IntKind.wrap_i64]; omega
      have hw_7 : IntKind.i64.wrap ((e : Int) + 1) = (e : Int) + 1 := by rw [IntKind.wrap_i64]; omega
      have hcap1 : ¬ (9223372036854775807 < p + (s.size - (p + q))) := by omega
      obtain ⟨hb3, F3, np3, ht3⟩ := hR3
      rw [← Tb.cut_list] at ht3
      have hsz3 : (s.extract 0 p ++ s.extract (p + q) s.size).data.toList.length ≤ 600 := by rw [Tb.cut_list]; simp; omega
      have hwh := whole_any (ht3.fr (Fr.drew (Fr.refl (fun _ => False) w3)) (by simp)) _ rfl (by omega) (by omega)
      have HB3 := Lib.hid hb3
      have hs3 := hb3.size
      clear hc3 hdel hb3 ht3 hsz3 hn1 hn2 hw_1 hw_2 hw_3 hw_4 hw_5 hs
      have fin : ∀ w4, Below w3.drew.heap.size w3.drew w4 → Below w.heap.size w w4 := fun w4 h => HB3.out.trans (Below.mono (⟨h.os, h.tape, h.output, h.size, h.block⟩ : Below w3.heap.size w3 w4) hs3)
      by_cases hq0 : 0 < q
      · have hnz : nz q = 1 := by rw [nz, if_neg (by omega)]
        rw [hnz, Int.natCast_add] at hwh
        have hd4 : decide (0 < (q : Int)) = true := by simp; omega
        go_wp2_with fail
        refine wp_still_tail 11 (by kernel_rfl) (by kernel_rfl) ?_
        simp only [List.take_succ_cons, List.take_zero, List.drop_succ_cons, List.drop_zero]
        repeat still_step
        refine wpStill_nil ?_
        go_wp2_with fail
        refine hwh.mono ?_
        rintro e4 w4 ⟨rfl, hb4⟩
        go_wp2
        go_ret
        exact ⟨rfl, fin w4 hb4⟩
      · have hnz : nz q = 0 := by rw [nz, if_pos (by omega)]
        rw [hnz, Nat.add_zero] at hwh
        have hd4 : decide (0 < (q : Int)) = false := by simp; omega
        go_wp2_with fail
        refine wp_still_tail 11 (by kernel_rfl) (by kernel_rfl) ?_
        simp only [List.take_succ_cons, List.take_zero, List.drop_succ_cons, List.drop_zero]
        repeat still_step
        refine wpStill_nil ?_
        go_wp2_with fail
        refine hwh.mono ?_
        rintro e4 w4 ⟨rfl, hb4⟩
        go_wp2
        go_ret
        exact ⟨rfl, fin w4 hb4⟩

theorem walk (a : Option Addr) (n c : Nat) (ls : List ByteArray) (off kk : Int) (w : World) (hs : SrcV w 1 (.slice a n c) n (ls.map .string)) (ho : (Lit.int .u16 off).wf = true) (hk : (Lit.int .u16 kk).wf = true) :
    Calls Try.prog 6 #[.slice a n c, .int .u16 off, .int .u16 kk] w fun e w' => e = .returned (.bool true) ∧ Below w.heap.size w w' := by
  by_cases h : 15 < n
  · exact long a n c off kk w (by have := hs.2.2.1; unfold maxLen at this; omega) h
  · exact short a n c ls off kk w hs (by omega) (by simpa [Lit.wf, IntKind.min, IntKind.max, IntKind.signed, IntKind.bits] using ho) (by simpa [Lit.wf, IntKind.min, IntKind.max, IntKind.signed, IntKind.bits] using hk)

end Go.Proofs.Ytiknnepmbkohiaa.PCu
