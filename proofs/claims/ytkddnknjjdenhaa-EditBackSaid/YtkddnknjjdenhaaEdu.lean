/-
  Package edit: start; the closures that remake a part.
-/
import Derived.Test.YtkddnknjjdenhaaEds
set_option linter.unusedVariables false
set_option linter.unusedSimpArgs false
set_option maxRecDepth 100000
namespace Go.Proofs.Ytkddnknjjdenhaa.Ed
open Go Go.RowKit Go.Proofs.Ytkddnknjjdenhaa.Vk Go.Proofs.Ytkddnknjjdenhaa.Str Go.Proofs.Ytkddnknjjdenhaa.Ln Go.Proofs.Ytkddnknjjdenhaa.Cl Go.Proofs.Ytkddnknjjdenhaa.Mv
attribute [local go_sem] Oper.semAt_some

theorem start_any (k fl fc tl tc : Int) (i z : Nat) (w : World) (hz : z ≤ 140737488355328) :
    Calls Try.prog 66 #[.agg #[.int .i64 k, .int .i64 fl, .int .i64 fc, .int .i64 tl, .int .i64 tc], .int .i64 i, .int .i64 z] w fun e w' => e = .returned (.int .i64 (if k = 0 then (if i = 0 then fc else 0) else if k = 2 then min fc z else 0)) ∧ Below w.heap.size w w' := by
  have hb : Below w.heap.size w (w.alloc (.cells #[.int .i64 k, .int .i64 fl, .int .i64 fc, .int .i64 tl, .int .i64 tc] 48)) := one_below _ _
  have HB := Lib.hid hb
  clear hb
  by_cases k0 : k = 0
  · subst k0
    by_cases h1 : i = 0
    · subst h1
      rw [if_pos rfl, if_pos rfl]
      go_enter Try.func66, Try.ntmps66
      go_wp2
      go_ret
      exact ⟨rfl, HB.out⟩
    · rw [if_pos rfl, if_neg h1]
      have e1 : ((i : Int) == 0) = false := by rw [beq_eq_false_iff_ne]; omega
      go_enter Try.func66, Try.ntmps66
      go_wp2
      go_ret
      exact ⟨rfl, HB.out⟩
  · have e0 : (k == 0) = false := by rw [beq_eq_false_iff_ne]; exact k0
    rw [if_neg k0]
    by_cases k2 : k = 2
    · subst k2
      rw [if_pos rfl]
      by_cases hm : (z : Int) < fc
      · have e2 : min fc (z : Int) = (z : Int) := by omega
        go_enter Try.func66, Try.ntmps66
        go_wp2
        go_ret
        exact ⟨ret_int (by omega), HB.out⟩
      · have e2 : min fc (z : Int) = fc := by omega
        go_enter Try.func66, Try.ntmps66
        go_wp2
        go_ret
        exact ⟨ret_int (by omega), HB.out⟩
    · rw [if_neg k2]
      have e2 : (k == 2) = false := by rw [beq_eq_false_iff_ne]; exact k2
      go_enter Try.func66, Try.ntmps66
      go_wp2
      go_ret
      exact ⟨rfl, HB.out⟩

theorem cut1_any (s : ByteArray) (w : World) : Calls Try.prog 49 #[.string s] w fun e w' => e = .returned (.string ⟨#[]⟩) ∧ w = w' := by
  go_enter Try.func49, Try.ntmps49
  go_wp2
  go_ret
  exact ⟨rfl, rfl⟩
theorem fill1_any (x : UInt8) (y : Int) (q : Nat) (w : World) (h : w.cell? ⟨q, 0, none⟩ = some (.int .u8 (x.toNat : Int))) : Calls Try.prog 53 #[.int .u8 y, .pointer (some ⟨q, 0, none⟩)] w fun e w' => e = .returned (.int .u8 (x.toNat : Int)) ∧ w = w' := by
  go_enter Try.func53, Try.ntmps53
  go_wp2
  go_ret
  exact ⟨rfl, rfl⟩
/-- A letter in its other case. -/
def oth (x : UInt8) : UInt8 := if 65 ≤ x.toNat ∧ x.toNat ≤ 90 then x + 32 else if 97 ≤ x.toNat ∧ x.toNat ≤ 122 then x - 32 else x
theorem oth_up {x : UInt8} (h : 65 ≤ x.toNat ∧ x.toNat ≤ 90) : (oth x).toNat = x.toNat + 32 := by
  unfold oth
  rw [if_pos h, UInt8.toNat_add]
  have : (32 : UInt8).toNat = 32 := rfl
  omega
theorem oth_down {x : UInt8} (h : 97 ≤ x.toNat ∧ x.toNat ≤ 122) : (oth x).toNat = x.toNat - 32 := by
  unfold oth
  rw [if_neg (by omega), if_pos h, UInt8.toNat_sub]
  have : (32 : UInt8).toNat = 32 := rfl
  omega
theorem oth_same {x : UInt8} (h1 : ¬ (65 ≤ x.toNat ∧ x.toNat ≤ 90)) (h2 : ¬ (97 ≤ x.toNat ∧ x.toNat ≤ 122)) : oth x = x := by unfold oth; rw [if_neg h1, if_neg h2]
theorem oth_oth (x : UInt8) : oth (oth x) = x := by
  by_cases h1 : 65 ≤ x.toNat ∧ x.toNat ≤ 90
  · apply UInt8.toNat_inj.1
    have h := oth_up h1
    rw [oth_down (x := oth x) (by omega), h]
    omega
  · by_cases h2 : 97 ≤ x.toNat ∧ x.toNat ≤ 122
    · apply UInt8.toNat_inj.1
      have h := oth_down h2
      rw [oth_up (x := oth x) (by omega), h]
      omega
    · rw [oth_same h1 h2, oth_same h1 h2]
theorem small_any (c : Nat) (w : World) (hc : c < 256) : Calls Try.prog 45 #[.int .u8 (c : Int)] w fun e w' => e = .returned (.int .u8 ((if 65 ≤ c ∧ c ≤ 90 then c + 32 else c : Nat) : Int)) ∧ w = w' := by
  by_cases h1 : 65 ≤ c
  · by_cases h2 : c ≤ 90
    · rw [if_pos ⟨h1, h2⟩]
      have e1 : (65 : Int) ≤ (c : Int) := by omega
      have e2 : (c : Int) ≤ 90 := by omega
      have v1 : IntKind.u8.wrap ((c : Int) - 65) = (c : Int) - 65 := by rw [IntKind.wrap_u8]; omega
      have v2 : IntKind.u8.wrap ((c : Int) - 65 + 97) = (c : Int) - 65 + 97 := by rw [IntKind.wrap_u8]; omega
      have HV := Lib.hid (show ((c : Int) - 65 + 97) = ((c + 32 : Nat) : Int) by omega)
      clear h1 h2
      go_enter Try.func45, Try.ntmps45
      go_wp2
      go_ret
      exact ⟨by rw [← HV.out]; rfl, rfl⟩
    · rw [if_neg (fun h => h2 h.2)]
      have e1 : (65 : Int) ≤ (c : Int) := by omega
      have e2 : ¬ (c : Int) ≤ 90 := by omega
      clear h1 h2
      go_enter Try.func45, Try.ntmps45
      go_wp2
      go_ret
      exact ⟨rfl, rfl⟩
  · rw [if_neg (fun h => h1 h.1)]
    have e1 : ¬ (65 : Int) ≤ (c : Int) := by omega
    clear h1
    go_enter Try.func45, Try.ntmps45
    go_wp2
    go_ret
    exact ⟨rfl, rfl⟩
theorem capital_any (c : Nat) (w : World) (hc : c < 256) : Calls Try.prog 46 #[.int .u8 (c : Int)] w fun e w' => e = .returned (.int .u8 ((if 97 ≤ c ∧ c ≤ 122 then c - 32 else c : Nat) : Int)) ∧ w = w' := by
  by_cases h1 : 97 ≤ c
  · by_cases h2 : c ≤ 122
    · rw [if_pos ⟨h1, h2⟩]
      have e1 : (97 : Int) ≤ (c : Int) := by omega
      have e2 : (c : Int) ≤ 122 := by omega
      have v1 : IntKind.u8.wrap ((c : Int) - 97) = (c : Int) - 97 := by rw [IntKind.wrap_u8]; omega
      have v2 : IntKind.u8.wrap ((c : Int) - 97 + 65) = (c : Int) - 97 + 65 := by rw [IntKind.wrap_u8]; omega
      have HV := Lib.hid (show ((c : Int) - 97 + 65) = ((c - 32 : Nat) : Int) by omega)
      clear h1 h2
      go_enter Try.func46, Try.ntmps46
      go_wp2
      go_ret
      exact ⟨by rw [← HV.out]; rfl, rfl⟩
    · rw [if_neg (fun h => h2 h.2)]
      have e1 : (97 : Int) ≤ (c : Int) := by omega
      have e2 : ¬ (c : Int) ≤ 122 := by omega
      clear h1 h2
      go_enter Try.func46, Try.ntmps46
      go_wp2
      go_ret
      exact ⟨rfl, rfl⟩
  · rw [if_neg (fun h => h1 h.1)]
    have e1 : ¬ (97 : Int) ≤ (c : Int) := by omega
    clear h1
    go_enter Try.func46, Try.ntmps46
    go_wp2
    go_ret
    exact ⟨rfl, rfl⟩
theorem other_any (x : UInt8) (w : World) : Calls Try.prog 44 #[.int .u8 (x.toNat : Int)] w fun e w' => e = .returned (.int .u8 ((oth x).toNat : Int)) ∧ w = w' := by
  have hx : x.toNat < 256 := x.toNat_lt
  have hs := fun W => small_any x.toNat W hx
  have hc := fun W => capital_any x.toNat W hx
  by_cases h1 : 65 ≤ x.toNat ∧ x.toNat ≤ 90
  · rw [oth_up h1]
    simp only [if_pos h1] at hs
    obtain ⟨c, hcc⟩ : ∃ c, c = x.toNat := ⟨_, rfl⟩
    rw [← hcc] at hs hc h1
    rw [← hcc]
    have e1 : (((c + 32 : Nat) : Int) == (c : Int)) = false := by rw [beq_eq_false_iff_ne]; omega
    have e2 : (((c : Int) + 32) == (c : Int)) = false := by rw [beq_eq_false_iff_ne]; omega
    obtain ⟨d, hd⟩ : ∃ d, d = c + 32 := ⟨_, rfl⟩
    rw [← hd] at hs e1
    rw [← hd]
    have e3 : (d == c) = false := by rw [beq_eq_false_iff_ne]; omega
    clear hcc hx h1 hd e2 hc
    go_enter Try.func44, Try.ntmps44
    go_wp2_with (refine (hs _).mono ?_; rintro e w' ⟨rfl, rfl⟩; clear hs)
    go_ret
    exact ⟨rfl, rfl⟩
  · simp only [if_neg h1] at hs
    have hv : ((oth x).toNat : Int) = ((if 97 ≤ x.toNat ∧ x.toNat ≤ 122 then x.toNat - 32 else x.toNat : Nat) : Int) := by
      by_cases h2 : 97 ≤ x.toNat ∧ x.toNat ≤ 122
      · rw [if_pos h2, oth_down h2]
      · rw [if_neg h2, oth_same h1 h2]
    rw [hv]
    generalize (if 97 ≤ x.toNat ∧ x.toNat ≤ 122 then x.toNat - 32 else x.toNat : Nat) = d at *
    generalize x.toNat = c at *
    clear hv h1 hx
    go_enter Try.func44, Try.ntmps44
    go_wp2_with (first | (refine (hs _).mono ?_; rintro e w' ⟨rfl, rfl⟩; clear hs) | (refine (hc _).mono ?_; rintro e w' ⟨rfl, rfl⟩; clear hc))
    go_ret
    exact ⟨rfl, rfl⟩

set_option maxHeartbeats 1000000 in
theorem turned1_fill (s : ByteArray) (p : Nat) (w : World) (hs : s.size ≤ 1000000) (q : Nat) (x : UInt8) (hq : w.cell? ⟨q, 0, none⟩ = some (.int .u8 (x.toNat : Int))) (hp : w.cell? ⟨p, 0, none⟩ = some (.func (.func 53) #[] #[.pointer (some ⟨q, 0, none⟩)])) :
    Calls Try.prog 62 #[.string s, .pointer (some ⟨p, 0, none⟩)] w fun e w' => e = .returned (.string (mapB (fun _ => x) s)) ∧ Below w.heap.size w w' := by
  obtain ⟨c0, w1, hcv, hown, hb1⟩ := conv_in w s (by omega)
  have H := Lib.hid (And.intro hown hb1)
  clear hown hb1
  go_enter Try.func62, Try.ntmps62
  go_wp2
  clear hcv
  go_loopw [11] (fun u wr => ∃ k : Nat, k ≤ s.size ∧ u = .int .i64 k ∧ Hid (OwnB wr w.heap.size (some ⟨w.heap.size, 0, none⟩) s.size c0 (mapI (fun _ => x) s k) ∧ Below w.heap.size w wr)) (fun u _ => s.size - (RowKit.intOf u).toNat)
  case atStart => exact ⟨0, Nat.zero_le _, rfl, by rw [mapI_zero]; exact H.out.1, H.out.2⟩
  case round =>
    obtain ⟨k, hk, rfl, hQ⟩ := hrel
    by_cases hks : k < s.size
    · have hc := hQ.out.1.cell k (by rw [mapI_size]; exact hks)
      rw [mapI_at (fun _ => x) s k hks] at hc
      have z := hQ.out.1.z' hks
      have hpr := cell_later hQ.out.2 hp
      have hqr := cell_later hQ.out.2 hq
      have hcl := fill1_any x ((s[k]'hks).toNat : Int) q wr hqr
      have hlt : (k : Int) < (s.size : Int) := by omega
      have hw : IntKind.i64.wrap ((k : Int) + 1) = ((k + 1 : Nat) : Int) := by rw [IntKind.wrap_i64]; omega
      have HN : Hid (OwnB (wr.setCell ⟨w.heap.size, k, none⟩ (.int .u8 (((fun _ => x) (s[k]'hks)).toNat : Int))) w.heap.size (some ⟨w.heap.size, 0, none⟩) s.size c0 (mapI (fun _ => x) s (k + 1)) ∧ Below w.heap.size w (wr.setCell ⟨w.heap.size, k, none⟩ (.int .u8 (((fun _ => x) (s[k]'hks)).toNat : Int)))) := by
        refine ⟨?_, hQ.out.2.setCell (p := ⟨w.heap.size, k, none⟩) (Nat.le_refl _) _⟩
        have h1 := hQ.out.1.put hks ((fun _ => x) (s[k]'hks))
        rwa [mapI_next (fun _ => x) s k hks] at h1
      go_wp2_with (refine hcl.mono ?_; rintro e w' ⟨rfl, rfl⟩; clear hcl)
      go_roundw
      case rel => exact ⟨k + 1, by omega, by go_num, HN⟩
      case measure => simp [RowKit.intOf]; omega
    · obtain rfl : k = s.size := by omega
      have hcv := conv_out hQ.out.1
      rw [mapI_all] at hcv
      go_wp2
      go_ret
      exact ⟨rfl, hQ.out.2⟩

set_option maxHeartbeats 1000000 in
theorem turned1_oth (s : ByteArray) (p : Nat) (w : World) (hs : s.size ≤ 1000000)  (hp : w.cell? ⟨p, 0, none⟩ = some (.func (.func 44) #[] #[])) :
    Calls Try.prog 62 #[.string s, .pointer (some ⟨p, 0, none⟩)] w fun e w' => e = .returned (.string (mapB oth s)) ∧ Below w.heap.size w w' := by
  obtain ⟨c0, w1, hcv, hown, hb1⟩ := conv_in w s (by omega)
  have H := Lib.hid (And.intro hown hb1)
  clear hown hb1
  go_enter Try.func62, Try.ntmps62
  go_wp2
  clear hcv
  go_loopw [11] (fun u wr => ∃ k : Nat, k ≤ s.size ∧ u = .int .i64 k ∧ Hid (OwnB wr w.heap.size (some ⟨w.heap.size, 0, none⟩) s.size c0 (mapI oth s k) ∧ Below w.heap.size w wr)) (fun u _ => s.size - (RowKit.intOf u).toNat)
  case atStart => exact ⟨0, Nat.zero_le _, rfl, by rw [mapI_zero]; exact H.out.1, H.out.2⟩
  case round =>
    obtain ⟨k, hk, rfl, hQ⟩ := hrel
    by_cases hks : k < s.size
    · have hc := hQ.out.1.cell k (by rw [mapI_size]; exact hks)
      rw [mapI_at oth s k hks] at hc
      have z := hQ.out.1.z' hks
      have hpr := cell_later hQ.out.2 hp
      skip
      have hcl := other_any (s[k]'hks) wr
      have hlt : (k : Int) < (s.size : Int) := by omega
      have hw : IntKind.i64.wrap ((k : Int) + 1) = ((k + 1 : Nat) : Int) := by rw [IntKind.wrap_i64]; omega
      have HN : Hid (OwnB (wr.setCell ⟨w.heap.size, k, none⟩ (.int .u8 ((oth (s[k]'hks)).toNat : Int))) w.heap.size (some ⟨w.heap.size, 0, none⟩) s.size c0 (mapI oth s (k + 1)) ∧ Below w.heap.size w (wr.setCell ⟨w.heap.size, k, none⟩ (.int .u8 ((oth (s[k]'hks)).toNat : Int)))) := by
        refine ⟨?_, hQ.out.2.setCell (p := ⟨w.heap.size, k, none⟩) (Nat.le_refl _) _⟩
        have h1 := hQ.out.1.put hks (oth (s[k]'hks))
        rwa [mapI_next oth s k hks] at h1
      go_wp2_with (refine hcl.mono ?_; rintro e w' ⟨rfl, rfl⟩; clear hcl)
      go_roundw
      case rel => exact ⟨k + 1, by omega, by go_num, HN⟩
      case measure => simp [RowKit.intOf]; omega
    · obtain rfl : k = s.size := by omega
      have hcv := conv_out hQ.out.1
      rw [mapI_all] at hcv
      go_wp2
      go_ret
      exact ⟨rfl, hQ.out.2⟩
end Go.Proofs.Ytkddnknjjdenhaa.Ed
