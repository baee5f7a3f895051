/-
  The law PieceSlices, walked.
-/
import Derived.Test.YtiknnepmbkohiaaPLaw
set_option linter.unusedVariables false
namespace Go.Proofs.Ytiknnepmbkohiaa.PSl
open Go Go.RowKit Go.Proofs.Ytiknnepmbkohiaa.Vk Go.Shelf Go.Proofs.Ytiknnepmbkohiaa.Tb
attribute [local go_sem] Oper.semAt_some

theorem long (s m : ByteArray) (at_ off n : Int) (w : World) (hs : s.size ≤ 140737488355328) (hm : m.size ≤ 140737488355328) (h : 300 < s.size + m.size) :
    Calls Try.prog 4 #[.string s, .string m, .int .u8 at_, .int .i64 off, .int .i64 n] w fun e w' => e = .returned (.bool true) ∧ Below w.heap.size w w' := by
  have hw_1 : IntKind.i64.wrap ((s.size : Int) + m.size) = (s.size : Int) + m.size := by rw [IntKind.wrap_i64]; omega
  have hd : decide (300 < (s.size : Int) + m.size) = true := by simp; omega
  go_enter Try.func4, Try.ntmps4
  go_wp2_with (go_at_call 9; refine (known_any _).mono ?_; rintro e w1 ⟨rfl, hb⟩)
  go_ret
  exact ⟨rfl, hb⟩

set_option maxRecDepth 100000 in
theorem short (s m : ByteArray) (at_ off n : Int) (w : World) (h : s.size + m.size ≤ 300) (ha : 0 ≤ at_ ∧ at_ ≤ 255) :
    Calls Try.prog 4 #[.string s, .string m, .int .u8 at_, .int .i64 off, .int .i64 n] w fun e w' => e = .returned (.bool true) ∧ Below w.heap.size w w' := by
  have hw_1 : IntKind.i64.wrap ((s.size : Int) + m.size) = (s.size : Int) + m.size := by rw [IntKind.wrap_i64]; omega
  have hd : decide (300 < (s.size : Int) + m.size) = false := by simp; omega
  have hw_2 : IntKind.i64.wrap at_ = at_ := by rw [IntKind.wrap_i64]; omega
  have hw_3 : IntKind.i64.wrap ((s.size : Int) + 1) = (s.size : Int) + 1 := by rw [IntKind.wrap_i64]; omega
  go_enter Try.func4, Try.ntmps4
  go_wp2_with (go_at_call 9; refine (known_any _).mono ?_; rintro e w1 ⟨rfl, hb1⟩)
  refine (new_ok s 1000 w1 (by omega) (by omega) (by omega)).mono ?_
  rintro e w2 ⟨t, F, np, rfl, ht, hb2⟩
  have hb2' := hb1.trans (hb2.mono hb1.size)
  have HT := Lib.hid (ht.base_mono hb1.size)
  have hw2 := hb2'.size
  have HB := Lib.hid hb2'
  clear ht hb1 hb2 hb2'
  obtain ⟨k, hk⟩ : ∃ k : Nat, (k : Int) = at_ % ((s.size : Int) + 1) := ⟨(at_ % ((s.size : Int) + 1)).toNat, Int.toNat_of_nonneg (Int.emod_nonneg _ (by omega))⟩
  have hks : k ≤ s.size := by have := Int.emod_lt_of_pos at_ (b := (s.size : Int) + 1) (by omega); omega
  have hmd : at_ % ((s.size : Int) + 1) = (k : Int) := hk.symm
  have hnz : ((s.size : Int) + 1 == 0) = false := by simp; omega
  clear hk
  go_wp2_with fail
  rw [hmd]
  clear hmd
  have hins := insert_ok HT.out k m (by rw [size_str]; omega) (by rw [size_str]; omega) (by rw [size_str]; omega) (by omega)
  refine hins.mono ?_
  rintro e w3 ⟨rfl, hc3⟩
  have hks' : (k : Int) ≤ s.size := by omega
  have hk0 : (0 : Int) ≤ k := by omega
  go_wp2_with fail
  go_quiet (fail)
  obtain ⟨u, hu⟩ : ∃ u, u = s.extract 0 k ++ m ++ s.extract k s.size := ⟨_, rfl⟩
  have hul : u.data.toList = s.data.toList.take k ++ m.data.toList ++ s.data.toList.drop k := by rw [hu, put_list]
  have hus : u.size = s.size + m.size := by rw [hu, put_size s m k hks]
  rw [← hu]
  rw [← hul] at hc3
  have hb3 : Below w.heap.size w w3 := HB.out.trans (hc3.below HT.out hw2)
  obtain ⟨F3, np3, ht3, -, -⟩ := hc3
  have hw3 := hb3.size
  have hb4 : Below w.heap.size w (w3.drewN nq) := ⟨hb3.os, hb3.tape, hb3.output, hb3.size, hb3.block⟩
  have ht4 : Tab (w3.drewN nq) w.heap.size t F3 u.data.toList 1000 (0 + nz m.size) np3 (s.size + m.size + 1) := ht3.fr ((Fr.refl (fun _ => False) w3).drewN nq) (by simp)
  have HB4 := Lib.hid hb4
  have hul := size_str u
  clear hb3 hb4 ht3 hu hins hnz hw_2 hw_3 hk0 hks'
  by_cases hin : inside u.data.toList off n
  · obtain ⟨h1, h2, h3, h4⟩ := hin
    rw [hul] at h2 h4
    obtain ⟨a, rfl⟩ : ∃ a : Nat, off = a := ⟨off.toNat, by omega⟩
    obtain ⟨b, rfl⟩ : ∃ b : Nat, n = b := ⟨n.toNat, by omega⟩
    have hsl := tslice ht4 a b (by omega) (by omega) (by omega)
    have hue : (ByteArray.mk ((u.data.toList.drop a).take b).toArray) = u.extract a (a + b) := list_inj (by rw [ext_list, List.take_drop])
    rw [hue] at hsl
    have d1 : decide ((a : Int) < 0) = false := by simp
    have d2 : decide ((b : Int) < 0) = false := by simp
    have d3 : decide ((u.size : Int) < a) = false := by simp; omega
    have d4 : decide ((u.size : Int) - a < b) = false := by simp; omega
    have hw_4 : IntKind.i64.wrap ((u.size : Int) - a) = (u.size : Int) - a := by rw [IntKind.wrap_i64]; omega
    have hw_5 : IntKind.i64.wrap ((a : Int) + b) = (a : Int) + b := by rw [IntKind.wrap_i64]; omega
    have htn : ((a : Int) + b).toNat = a + b := by omega
    have hl0 : (0 : Int) ≤ (a : Int) + b := by omega
    have hl1 : (a : Int) + b ≤ u.size := by omega
    clear h1 h2 h3 h4 hue ht4
    go_wp2_with fail
    refine hsl.mono ?_
    rintro e w5 ⟨rfl, hb5⟩
    have hb6 := HB4.out.trans (hb5.mono hw3)
    clear hb5 hsl
    go_wp2
    go_ret
    exact ⟨rfl, hb6⟩
  · have hsp := slice_place ht4 off n hin
    clear ht4
    go_wp2_with fail
    refine hsp.mono ?_
    rintro e w5 ⟨rfl, hb5⟩
    have hb6 := HB4.out.trans (hb5.mono hw3)
    clear hb5 hsp
    by_cases h1 : off < 0
    · go_wp2
      go_ret
      exact ⟨rfl, hb6⟩
    · by_cases h2 : n < 0
      · go_wp2
        go_ret
        exact ⟨rfl, hb6⟩
      · by_cases h3 : (u.size : Int) < off
        · go_wp2
          go_ret
          exact ⟨rfl, hb6⟩
        · have h4 : (u.size : Int) - off < n := by
            rcases Int.lt_or_le ((u.size : Int) - off) n with h | h
            · exact h
            · exact absurd ⟨by omega, by omega, by omega, by omega⟩ hin
          have hw_4 : IntKind.i64.wrap ((u.size : Int) - off) = (u.size : Int) - off := by rw [IntKind.wrap_i64]; omega
          go_wp2
          go_ret
          exact ⟨rfl, hb6⟩

theorem walk (s m : ByteArray) (at_ off n : Int) (w : World) (hs : s.size ≤ 140737488355328) (hm : m.size ≤ 140737488355328) (ha : (Lit.int .u8 at_).wf = true) (ho : (Lit.int .i64 off).wf = true) (hn : (Lit.int .i64 n).wf = true) :
    Calls Try.prog 4 #[.string s, .string m, .int .u8 at_, .int .i64 off, .int .i64 n] w fun e w' => e = .returned (.bool true) ∧ Below w.heap.size w w' := by
  by_cases h : 300 < s.size + m.size
  · exact long s m at_ off n w hs hm h
  · exact short s m at_ off n w (by omega) (by simpa [Lit.wf, IntKind.min, IntKind.max, IntKind.signed, IntKind.bits] using ha)
end Go.Proofs.Ytiknnepmbkohiaa.PSl
