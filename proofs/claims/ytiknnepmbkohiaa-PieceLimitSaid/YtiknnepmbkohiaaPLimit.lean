/-
  The law PieceLimit, walked.
-/
import Derived.Test.YtiknnepmbkohiaaPLaw
set_option linter.unusedVariables false
namespace Go.Proofs.Ytiknnepmbkohiaa.PLim
open Go Go.RowKit Go.Proofs.Ytiknnepmbkohiaa.Vk Go.Shelf Go.Proofs.Ytiknnepmbkohiaa.Tb
attribute [local go_sem] Oper.semAt_some

theorem long (s m : ByteArray) (less : Int) (w : World) (hs : s.size ≤ 140737488355328) (hm : m.size ≤ 140737488355328) (h : 300 < s.size + m.size) :
    Calls Try.prog 7 #[.string s, .string m, .int .i8 less] w fun e w' => e = .returned (.bool true) ∧ Below w.heap.size w w' := by
  have hw_1 : IntKind.i64.wrap ((s.size : Int) + m.size) = (s.size : Int) + m.size := by rw [IntKind.wrap_i64]; omega
  have hd : decide (300 < (s.size : Int) + m.size) = true := by simp; omega
  go_enter Try.func7, Try.ntmps7
  go_wp2_with (go_at_call 9; refine (known_any _).mono ?_; rintro e w1 ⟨rfl, hb⟩)
  go_ret
  exact ⟨rfl, hb⟩

set_option maxRecDepth 100000 in
theorem short (s m : ByteArray) (less : Int) (w : World) (h : s.size + m.size ≤ 300) :
    Calls Try.prog 7 #[.string s, .string m, .int .i8 less] w fun e w' => e = .returned (.bool true) ∧ Below w.heap.size w w' := by
  have hw_1 : IntKind.i64.wrap ((s.size : Int) + m.size) = (s.size : Int) + m.size := by rw [IntKind.wrap_i64]; omega
  have hd : decide (300 < (s.size : Int) + m.size) = false := by simp; omega
  have hr2 : -2 ≤ less.tmod 3 ∧ less.tmod 3 ≤ 2 := by
    have h1 := Int.tmod_lt_of_pos less (b := 3) (by omega)
    have h2 := Int.lt_tmod_of_pos less (b := 3) (by omega)
    omega
  obtain ⟨r, hr⟩ : ∃ r, r = less.tmod 3 := ⟨_, rfl⟩
  rw [← hr] at hr2
  have hw_2 : IntKind.i64.wrap (less.tmod 3) = less.tmod 3 := by rw [← hr, IntKind.wrap_i64]; omega
  have hw_3 : IntKind.i64.wrap ((s.size : Int) + m.size + less.tmod 3) = (s.size : Int) + m.size + less.tmod 3 := by rw [← hr, IntKind.wrap_i64]; omega
  go_enter Try.func7, Try.ntmps7
  go_wp2_with (go_at_call 9; refine (known_any _).mono ?_; rintro e w1 ⟨rfl, hb1⟩)
  rw [← hr]
  by_cases hbig : (s.size : Int) + m.size + r < s.size
  · refine (new_full s _ w1 (by omega) hbig).mono ?_
    rintro e w2 ⟨rfl, rfl⟩
    have d2 : decide ((s.size : Int) ≤ (s.size : Int) + m.size + r) = false := by simp; omega
    go_wp2_with fail
    go_ret
    exact ⟨rfl, hb1⟩
  · refine (new_ok s _ w1 (by omega) (by omega) (by omega)).mono ?_
    rintro e w2 ⟨t, F, np, rfl, ht, hb2⟩
    have hb2' := hb1.trans (hb2.mono hb1.size)
    have HT := Lib.hid (ht.base_mono hb1.size)
    have hw2 := hb2'.size
    have HB := Lib.hid hb2'
    have hsl := size_str s
    clear ht hb1 hb2 hb2'
    have d2 : decide ((s.size : Int) ≤ (s.size : Int) + m.size + r) = true := by simp; omega
    obtain ⟨k, hk⟩ : ∃ k : Nat, k = s.size / 2 := ⟨_, rfl⟩
    have hk2 : (s.size : Int) / 2 = (k : Int) := by omega
    have hks : k ≤ s.size := by omega
    clear hk
    by_cases hneg : r < 0
    · have d3 : decide (less.tmod 3 < 0) = true := by rw [← hr]; simpa using hneg
      have hins := insert_full HT.out k m ⟨by omega, by omega⟩ (by omega) (by omega) (by omega)
      go_wp2_with fail
      refine hins.mono ?_
      rintro e w3 ⟨rfl, hb3⟩
      have hwh := whole_any (HT.out.below hb3) s rfl (by omega) (by omega)
      have hb3' := HB.out.trans (hb3.mono hw2)
      clear hb3 hins
      go_wp2_with fail
      refine hwh.mono ?_
      rintro e w4 ⟨rfl, hb4⟩
      have hb4' := hb3'.trans (hb4.mono hb3'.size)
      go_wp2
      go_ret
      exact ⟨rfl, hb4'⟩
    · have d3 : decide (less.tmod 3 < 0) = false := by rw [← hr]; simpa using hneg
      have hins := insert_ok HT.out k m (by omega) (by omega) (by omega) (by omega)
      go_wp2_with fail
      refine hins.mono ?_
      rintro e w3 ⟨rfl, hc3⟩
      have hb3 : Below w.heap.size w w3 := HB.out.trans (hc3.below HT.out hw2)
      obtain ⟨F3, np3, ht3, -, -⟩ := hc3
      have hlen := tlen ht3
      have hll : ((s.data.toList.take k ++ m.data.toList ++ s.data.toList.drop k).length : Int) = (s.size : Int) + m.size := by
        have := size_str m
        simp only [List.length_append, List.length_take, List.length_drop]
        omega
      rw [hll] at hlen
      have heq : ((s.size : Int) + m.size == (s.size : Int) + m.size) = true := beq_self_eq_true _
      clear ht3 hins hll
      go_wp2_with (go_at_call 15; refine hlen.mono ?_; rintro e w' ⟨rfl, rfl⟩)
      go_ret
      exact ⟨rfl, hb3⟩

theorem walk (s m : ByteArray) (less : Int) (w : World) (hs : s.size ≤ 140737488355328) (hm : m.size ≤ 140737488355328) (ha : (Lit.int .i8 less).wf = true) :
    Calls Try.prog 7 #[.string s, .string m, .int .i8 less] w fun e w' => e = .returned (.bool true) ∧ Below w.heap.size w w' := by
  by_cases h : 300 < s.size + m.size
  · exact long s m less w hs hm h
  · exact short s m less w (by omega)
end Go.Proofs.Ytiknnepmbkohiaa.PLim
