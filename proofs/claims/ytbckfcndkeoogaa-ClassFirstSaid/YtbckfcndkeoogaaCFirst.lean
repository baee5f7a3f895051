/-
  The law ClassFirst, walked.
-/
import Derived.Test.YtbckfcndkeoogaaCk
set_option linter.unusedVariables false
set_option linter.unusedSimpArgs false
set_option maxRecDepth 100000
namespace Go.Proofs.Ytbckfcndkeoogaa.Cl
open Go Go.RowKit Go.Proofs.Ytbckfcndkeoogaa.Vk Go.Proofs.Ytbckfcndkeoogaa.Str Go.Proofs.Ytbckfcndkeoogaa.Ln
theorem fst_lt {s : ByteArray} (h : 0 < s.size) : fst s < s.size := by unfold fst; omega
theorem fst_before {s : ByteArray} {j : Nat} (h : j < fst s) (hj : j < s.size) : bl s[j] = true := by
  have h1 : j < s.data.toList.findIdx fun b => !bl b := by unfold fst at h; omega
  have h2 := List.not_of_lt_findIdx h1
  rw [list_at] at h2
  simpa using h2
theorem fst_end {s : ByteArray} (h : fst s < s.size) (hb : bl s[fst s] = true) : fst s = s.size - 1 := by
  by_cases h1 : (s.data.toList.findIdx fun b => !bl b) < s.data.toList.length
  · have h2 : (!bl (s.data.toList[s.data.toList.findIdx fun b => !bl b]'h1)) = true := List.findIdx_getElem (w := h1)
    have e : fst s = s.data.toList.findIdx fun b => !bl b := by unfold fst; rw [size_str] at h1; omega
    rw [list_at] at h2
    simp only [← e] at h2
    rw [hb] at h2
    cases h2
  · unfold fst; rw [size_str] at h1; omega
end Go.Proofs.Ytbckfcndkeoogaa.Cl
namespace Go.Proofs.Ytbckfcndkeoogaa.CFirst
open Go Go.RowKit Go.Proofs.Ytbckfcndkeoogaa.Vk Go.Proofs.Ytbckfcndkeoogaa.Str Go.Proofs.Ytbckfcndkeoogaa.Ln Go.Proofs.Ytbckfcndkeoogaa.Cl
attribute [local go_sem] Oper.semAt_some

theorem walk (c : Int) (s : ByteArray) (w : World) (hc : (Lit.int .u8 c).wf = true) (hs : s.size ≤ 140737488355328) :
    Calls Try.prog 6 #[.int .u8 c, .string s] w fun e w' => e = .returned (.bool true) ∧ Below w.heap.size w w' := by
  have hk := known_any w
  have hc2 : 0 ≤ c ∧ c ≤ 255 := by simpa [Lit.wf, IntKind.min, IntKind.max, IntKind.signed, IntKind.bits] using hc
  by_cases hl : 200 < s.size
  · go_enter Try.func6, Try.ntmps6
    go_wp2_with fail
    refine hk.mono ?_
    rintro e w1 ⟨rfl, hb1⟩
    have HB := Lib.hid hb1
    clear hk hb1
    go_wp2
    go_ret
    exact ⟨rfl, HB.out⟩
  obtain ⟨m, hm, hm8⟩ : ∃ m : Nat, c.tmod 9 = (m : Int) ∧ m ≤ 8 := by
    have h1 := Int.tmod_lt_of_pos c (b := 9) (by omega)
    have h2 := Int.tmod_nonneg 9 hc2.1
    exact ⟨(c.tmod 9).toNat, by omega, by omega⟩
  have hwm : IntKind.u8.wrap (m : Int) = (m : Int) := by simp [IntKind.wrap, IntKind.bits, IntKind.signed]; omega
  have hwm2 : IntKind.i64.wrap (m : Int) = (m : Int) := by rw [IntKind.wrap_i64]; omega
  go_enter Try.func6, Try.ntmps6
  go_wp2_with fail
  refine hk.mono ?_
  rintro e w1 ⟨rfl, hb1⟩
  have HB := Lib.hid hb1
  clear hk hb1
  go_wp2_with fail
  go_loop [5, 6] (fun t i => ∃ (k : Nat) (u : ByteArray), k ≤ m ∧ i = .int .i64 k ∧ t = .string u ∧ u.size = s.size + k) (fun t i => m - (RowKit.intOf i).toNat)
  case atStart => exact ⟨0, s, Nat.zero_le _, rfl, rfl, by omega⟩
  case round =>
    obtain ⟨k, u, hk, rfl, rfl, hu⟩ := hrel
    by_cases hkn : k < m
    · obtain ⟨r, hr, hr1⟩ : ∃ r : Nat, (k : Int).tmod 2 = (r : Int) ∧ r ≤ 1 := ⟨k % 2, by rw [Int.tmod_eq_emod_of_nonneg (by omega)]; omega, by omega⟩
      have hwr : IntKind.i64.wrap ((r : Int) + 1) = (r : Int) + 1 := by rw [IntKind.wrap_i64]; omega
      go_wp2
      go_round
      case rel => exact ⟨k + 1, _, by omega, by go_num, rfl, by rw [ByteArray.size_append, ByteArray.size_extract, hu]; show min (r + 1) 2 - r + (s.size + k) = s.size + (k + 1); omega⟩
      case measure => simp [RowKit.intOf]; omega
    · obtain rfl : k = m := by omega
      have hu63 : u.size ≤ 208 := by omega
      have hf := first_any u w1 (by omega)
      clear hu hs hl
      by_cases h0 : u.size = 0
      · have he := empty_of_zero h0
        have hz : fst u = 0 := by unfold fst; omega
        rw [hz] at hf
        clear h0 hz
        go_wp2_with fail
        refine hf.mono ?_
        rintro e w' ⟨rfl, rfl⟩
        clear hf
        go_wp2
        go_ret
        exact ⟨rfl, HB.out⟩
      · have he := empty_of_pos (x := u) (by omega)
        obtain ⟨z, hz, hlt, hbe, hen⟩ : ∃ z, z = fst u ∧ ∃ h : z < u.size, (∀ j, ∀ hj : j < z, bl (u[j]'(by omega)) = true) ∧ (bl (u[z]'h) = true → z = u.size - 1) :=
          ⟨_, rfl, fst_lt (by omega), fun j hj => fst_before hj (by have := fst_lt (s := u) (by omega); omega), fst_end (fst_lt (by omega))⟩
        rw [← hz] at hf
        clear hz
        have HBE := Lib.hid hbe
        have HEN := Lib.hid hen
        clear hbe hen
        go_wp2_with fail
        refine hf.mono ?_
        rintro e w' ⟨rfl, rfl⟩
        clear hf
        go_wp2_with fail
        go_loop [8] (fun i => ∃ j : Nat, j ≤ z ∧ i = .int .i64 j) (fun i => z - (RowKit.intOf i).toNat)
        case atStart => exact ⟨0, Nat.zero_le _, rfl⟩
        case round =>
          obtain ⟨j, hj, rfl⟩ := hrel
          by_cases hjz : j < z
          · have ho := of_any (u[j]'(by omega)).toNat false w1
            have hb := HBE.out j hjz
            rw [show cls (u[j]'(by omega)).toNat false = 0 from cls_blank _ ((cls_zero _).1 (bl_cls hb))] at ho
            clear hb
            go_wp2_with fail
            refine ho.mono ?_
            rintro e w' ⟨rfl, rfl⟩
            clear ho
            go_wp2
            go_round
            case rel => exact ⟨j + 1, by omega, by go_num⟩
            case measure => simp [RowKit.intOf]; omega
          · obtain rfl : j = z := by omega
            have ho := of_any (u[j]'hlt).toNat true w1
            cases hb : bl (u[j]'hlt)
            · rw [nb_cls hb] at ho
              clear hb
              go_wp2_with fail
              refine ho.mono ?_
              rintro e w' ⟨rfl, rfl⟩
              clear ho
              go_wp2
              go_ret
              exact ⟨rfl, HB.out⟩
            · rw [bl_cls hb] at ho
              have hz := HEN.out hb
              have hwz : IntKind.i64.wrap ((u.size : Int) - 1) = (j : Int) := by rw [IntKind.wrap_i64]; omega
              clear hb hz
              go_wp2_with fail
              refine ho.mono ?_
              rintro e w' ⟨rfl, rfl⟩
              clear ho
              go_wp2
              go_ret
              exact ⟨rfl, HB.out⟩

end Go.Proofs.Ytbckfcndkeoogaa.CFirst
