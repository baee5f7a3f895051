/-
  Package para and the document: the helps that need no iterator.
-/
import Derived.Test.YtnngcminomooeaaGl
import Derived.Test.YtnngcminomooeaaQp
import Derived.Test.YtnngcminomooeaaMp
import Derived.Test.YtnngcminomooeaaZz
set_option linter.unusedVariables false
set_option linter.unusedSimpArgs false
set_option maxRecDepth 100000
namespace Go.Proofs.Ytnngcminomooeaa.Pa
open Go Go.RowKit Go.Proofs.Ytnngcminomooeaa.Vk Go.Proofs.Ytnngcminomooeaa.Str Go.Proofs.Ytnngcminomooeaa.Ln Go.Proofs.Ytnngcminomooeaa.Cl Go.Proofs.Ytnngcminomooeaa.Mv Go.Proofs.Ytnngcminomooeaa.Wd
attribute [local go_sem] Oper.semAt_some

theorem stops_any (s : ByteArray) (j : Nat) (w : World) (hj : j < s.size) (hz : s.size ≤ 140737488355328) :
    Calls Try.prog 50 #[.string s, .int .i64 j] w fun e w' => e = .returned (.bool (stp s j)) ∧ w = w' := by
  have hw1 : IntKind.i64.wrap ((s.size : Int) - 1) = (s.size : Int) - 1 := by rw [IntKind.wrap_i64]; omega
  by_cases hc : bt s j = 46 ∨ bt s j = 33 ∨ bt s j = 63
  · have hc' := hc
    rcases hc' with h | h | h
    · have e0 : (((s[j]'hj).toNat : Int) == 46) = true := by rw [bt_at]; rw [beq_iff_eq]; exact h
      have e1 : (((s[j]'hj).toNat : Int) == 33) = false := by rw [bt_at]; rw [beq_eq_false_iff_ne]; omega
      have e2 : (((s[j]'hj).toNat : Int) == 63) = false := by rw [bt_at]; rw [beq_eq_false_iff_ne]; omega
      clear h
      by_cases hl : j + 1 = s.size
      · have hv : stp s j = true := by unfold stp; rw [decide_eq_true hc, decide_eq_true hl]; rfl
        have b0 : ((j : Int) == (s.size : Int) - 1) = true := by rw [beq_iff_eq]; omega
        rw [hv]
        clear hv hc hl
        go_enter Try.func50, Try.ntmps50
        go_wp2
        go_ret
        exact ⟨rfl, rfl⟩
      · obtain ⟨k, hkj⟩ : ∃ k, k = j + 1 := ⟨_, rfl⟩
        have hk : k < s.size := by omega
        have h2 := fun W => of_any ((s[k]'hk).toNat) true W
        rw [kl_at] at h2
        have hv : stp s j = decide (kl s true k = 0) := by unfold stp; rw [decide_eq_true hc, decide_eq_false hl, ← hkj]; rfl
        have hw : IntKind.i64.wrap ((j : Int) + 1) = (k : Int) := by rw [IntKind.wrap_i64]; omega
        have b0 : ((j : Int) == (s.size : Int) - 1) = false := by rw [beq_eq_false_iff_ne]; omega
        rw [hv]
        generalize kl s true k = A at *
        clear hv hc hl hkj
        go_enter Try.func50, Try.ntmps50
        go_wp2_with fail
        refine (h2 _).mono ?_
        rintro e w' ⟨rfl, rfl⟩
        clear h2
        go_wp2
        go_ret
        exact ⟨ret_bool (by by_cases hA : A = 0 <;> simp [hA]), rfl⟩
    · have e0 : (((s[j]'hj).toNat : Int) == 46) = false := by rw [bt_at]; rw [beq_eq_false_iff_ne]; omega
      have e1 : (((s[j]'hj).toNat : Int) == 33) = true := by rw [bt_at]; rw [beq_iff_eq]; exact h
      have e2 : (((s[j]'hj).toNat : Int) == 63) = false := by rw [bt_at]; rw [beq_eq_false_iff_ne]; omega
      clear h
      by_cases hl : j + 1 = s.size
      · have hv : stp s j = true := by unfold stp; rw [decide_eq_true hc, decide_eq_true hl]; rfl
        have b0 : ((j : Int) == (s.size : Int) - 1) = true := by rw [beq_iff_eq]; omega
        rw [hv]
        clear hv hc hl
        go_enter Try.func50, Try.ntmps50
        go_wp2
        go_ret
        exact ⟨rfl, rfl⟩
      · obtain ⟨k, hkj⟩ : ∃ k, k = j + 1 := ⟨_, rfl⟩
        have hk : k < s.size := by omega
        have h2 := fun W => of_any ((s[k]'hk).toNat) true W
        rw [kl_at] at h2
        have hv : stp s j = decide (kl s true k = 0) := by unfold stp; rw [decide_eq_true hc, decide_eq_false hl, ← hkj]; rfl
        have hw : IntKind.i64.wrap ((j : Int) + 1) = (k : Int) := by rw [IntKind.wrap_i64]; omega
        have b0 : ((j : Int) == (s.size : Int) - 1) = false := by rw [beq_eq_false_iff_ne]; omega
        rw [hv]
        generalize kl s true k = A at *
        clear hv hc hl hkj
        go_enter Try.func50, Try.ntmps50
        go_wp2_with fail
        refine (h2 _).mono ?_
        rintro e w' ⟨rfl, rfl⟩
        clear h2
        go_wp2
        go_ret
        exact ⟨ret_bool (by by_cases hA : A = 0 <;> simp [hA]), rfl⟩
    · have e0 : (((s[j]'hj).toNat : Int) == 46) = false := by rw [bt_at]; rw [beq_eq_false_iff_ne]; omega
      have e1 : (((s[j]'hj).toNat : Int) == 33) = false := by rw [bt_at]; rw [beq_eq_false_iff_ne]; omega
      have e2 : (((s[j]'hj).toNat : Int) == 63) = true := by rw [bt_at]; rw [beq_iff_eq]; exact h
      clear h
      by_cases hl : j + 1 = s.size
      · have hv : stp s j = true := by unfold stp; rw [decide_eq_true hc, decide_eq_true hl]; rfl
        have b0 : ((j : Int) == (s.size : Int) - 1) = true := by rw [beq_iff_eq]; omega
        rw [hv]
        clear hv hc hl
        go_enter Try.func50, Try.ntmps50
        go_wp2
        go_ret
        exact ⟨rfl, rfl⟩
      · obtain ⟨k, hkj⟩ : ∃ k, k = j + 1 := ⟨_, rfl⟩
        have hk : k < s.size := by omega
        have h2 := fun W => of_any ((s[k]'hk).toNat) true W
        rw [kl_at] at h2
        have hv : stp s j = decide (kl s true k = 0) := by unfold stp; rw [decide_eq_true hc, decide_eq_false hl, ← hkj]; rfl
        have hw : IntKind.i64.wrap ((j : Int) + 1) = (k : Int) := by rw [IntKind.wrap_i64]; omega
        have b0 : ((j : Int) == (s.size : Int) - 1) = false := by rw [beq_eq_false_iff_ne]; omega
        rw [hv]
        generalize kl s true k = A at *
        clear hv hc hl hkj
        go_enter Try.func50, Try.ntmps50
        go_wp2_with fail
        refine (h2 _).mono ?_
        rintro e w' ⟨rfl, rfl⟩
        clear h2
        go_wp2
        go_ret
        exact ⟨ret_bool (by by_cases hA : A = 0 <;> simp [hA]), rfl⟩
  · have hv : stp s j = false := by unfold stp; rw [decide_eq_false hc]; rfl
    rw [hv]
    have e0 : (((s[j]'hj).toNat : Int) == 46) = false := by rw [bt_at, beq_eq_false_iff_ne]; omega
    have e1 : (((s[j]'hj).toNat : Int) == 33) = false := by rw [bt_at, beq_eq_false_iff_ne]; omega
    have e2 : (((s[j]'hj).toNat : Int) == 63) = false := by rw [bt_at, beq_eq_false_iff_ne]; omega
    clear hv hc
    go_enter Try.func50, Try.ntmps50
    go_wp2
    go_ret
    exact ⟨rfl, rfl⟩

theorem stop5_any (s : ByteArray) (j : Nat) (w : World) (hj : j < s.size) (hz : s.size ≤ 140737488355328) :
    Calls Try.prog 41 #[.string s, .int .i64 j] w fun e w' => e = .returned (.bool (stp s j)) ∧ w = w' := by
  have hw1 : IntKind.i64.wrap ((s.size : Int) - 1) = (s.size : Int) - 1 := by rw [IntKind.wrap_i64]; omega
  by_cases hc : bt s j = 46 ∨ bt s j = 33 ∨ bt s j = 63
  · have hc' := hc
    rcases hc' with h | h | h
    · have e0 : (((s[j]'hj).toNat : Int) == 46) = true := by rw [bt_at]; rw [beq_iff_eq]; exact h
      have e1 : (((s[j]'hj).toNat : Int) == 33) = false := by rw [bt_at]; rw [beq_eq_false_iff_ne]; omega
      have e2 : (((s[j]'hj).toNat : Int) == 63) = false := by rw [bt_at]; rw [beq_eq_false_iff_ne]; omega
      clear h
      by_cases hl : j + 1 = s.size
      · have hv : stp s j = true := by unfold stp; rw [decide_eq_true hc, decide_eq_true hl]; rfl
        have b0 : ((j : Int) == (s.size : Int) - 1) = true := by rw [beq_iff_eq]; omega
        rw [hv]
        clear hv hc hl
        go_enter Try.func41, Try.ntmps41
        go_wp2
        go_ret
        exact ⟨rfl, rfl⟩
      · obtain ⟨k, hkj⟩ : ∃ k, k = j + 1 := ⟨_, rfl⟩
        have hk : k < s.size := by omega
        have h2 := fun W => of5_any ((s[k]'hk).toNat) true W
        rw [kl_at] at h2
        have hv : stp s j = decide (kl s true k = 0) := by unfold stp; rw [decide_eq_true hc, decide_eq_false hl, ← hkj]; rfl
        have hw : IntKind.i64.wrap ((j : Int) + 1) = (k : Int) := by rw [IntKind.wrap_i64]; omega
        have b0 : ((j : Int) == (s.size : Int) - 1) = false := by rw [beq_eq_false_iff_ne]; omega
        rw [hv]
        generalize kl s true k = A at *
        clear hv hc hl hkj
        go_enter Try.func41, Try.ntmps41
        go_wp2_with fail
        refine (h2 _).mono ?_
        rintro e w' ⟨rfl, rfl⟩
        clear h2
        go_wp2
        go_ret
        exact ⟨ret_bool (by by_cases hA : A = 0 <;> simp [hA]), rfl⟩
    · have e0 : (((s[j]'hj).toNat : Int) == 46) = false := by rw [bt_at]; rw [beq_eq_false_iff_ne]; omega
      have e1 : (((s[j]'hj).toNat : Int) == 33) = true := by rw [bt_at]; rw [beq_iff_eq]; exact h
      have e2 : (((s[j]'hj).toNat : Int) == 63) = false := by rw [bt_at]; rw [beq_eq_false_iff_ne]; omega
      clear h
      by_cases hl : j + 1 = s.size
      · have hv : stp s j = true := by unfold stp; rw [decide_eq_true hc, decide_eq_true hl]; rfl
        have b0 : ((j : Int) == (s.size : Int) - 1) = true := by rw [beq_iff_eq]; omega
        rw [hv]
        clear hv hc hl
        go_enter Try.func41, Try.ntmps41
        go_wp2
        go_ret
        exact ⟨rfl, rfl⟩
      · obtain ⟨k, hkj⟩ : ∃ k, k = j + 1 := ⟨_, rfl⟩
        have hk : k < s.size := by omega
        have h2 := fun W => of5_any ((s[k]'hk).toNat) true W
        rw [kl_at] at h2
        have hv : stp s j = decide (kl s true k = 0) := by unfold stp; rw [decide_eq_true hc, decide_eq_false hl, ← hkj]; rfl
        have hw : IntKind.i64.wrap ((j : Int) + 1) = (k : Int) := by rw [IntKind.wrap_i64]; omega
        have b0 : ((j : Int) == (s.size : Int) - 1) = false := by rw [beq_eq_false_iff_ne]; omega
        rw [hv]
        generalize kl s true k = A at *
        clear hv hc hl hkj
        go_enter Try.func41, Try.ntmps41
        go_wp2_with fail
        refine (h2 _).mono ?_
        rintro e w' ⟨rfl, rfl⟩
        clear h2
        go_wp2
        go_ret
        exact ⟨ret_bool (by by_cases hA : A = 0 <;> simp [hA]), rfl⟩
    · have e0 : (((s[j]'hj).toNat : Int) == 46) = false := by rw [bt_at]; rw [beq_eq_false_iff_ne]; omega
      have e1 : (((s[j]'hj).toNat : Int) == 33) = false := by rw [bt_at]; rw [beq_eq_false_iff_ne]; omega
      have e2 : (((s[j]'hj).toNat : Int) == 63) = true := by rw [bt_at]; rw [beq_iff_eq]; exact h
      clear h
      by_cases hl : j + 1 = s.size
      · have hv : stp s j = true := by unfold stp; rw [decide_eq_true hc, decide_eq_true hl]; rfl
        have b0 : ((j : Int) == (s.size : Int) - 1) = true := by rw [beq_iff_eq]; omega
        rw [hv]
        clear hv hc hl
        go_enter Try.func41, Try.ntmps41
        go_wp2
        go_ret
        exact ⟨rfl, rfl⟩
      · obtain ⟨k, hkj⟩ : ∃ k, k = j + 1 := ⟨_, rfl⟩
        have hk : k < s.size := by omega
        have h2 := fun W => of5_any ((s[k]'hk).toNat) true W
        rw [kl_at] at h2
        have hv : stp s j = decide (kl s true k = 0) := by unfold stp; rw [decide_eq_true hc, decide_eq_false hl, ← hkj]; rfl
        have hw : IntKind.i64.wrap ((j : Int) + 1) = (k : Int) := by rw [IntKind.wrap_i64]; omega
        have b0 : ((j : Int) == (s.size : Int) - 1) = false := by rw [beq_eq_false_iff_ne]; omega
        rw [hv]
        generalize kl s true k = A at *
        clear hv hc hl hkj
        go_enter Try.func41, Try.ntmps41
        go_wp2_with fail
        refine (h2 _).mono ?_
        rintro e w' ⟨rfl, rfl⟩
        clear h2
        go_wp2
        go_ret
        exact ⟨ret_bool (by by_cases hA : A = 0 <;> simp [hA]), rfl⟩
  · have hv : stp s j = false := by unfold stp; rw [decide_eq_false hc]; rfl
    rw [hv]
    have e0 : (((s[j]'hj).toNat : Int) == 46) = false := by rw [bt_at, beq_eq_false_iff_ne]; omega
    have e1 : (((s[j]'hj).toNat : Int) == 33) = false := by rw [bt_at, beq_eq_false_iff_ne]; omega
    have e2 : (((s[j]'hj).toNat : Int) == 63) = false := by rw [bt_at, beq_eq_false_iff_ne]; omega
    clear hv hc
    go_enter Try.func41, Try.ntmps41
    go_wp2
    go_ret
    exact ⟨rfl, rfl⟩

theorem stopped_any (s : ByteArray) (w : World) (hz : s.size ≤ 140737488355328) :
    Calls Try.prog 52 #[.string s] w fun e w' => e = .returned (.bool (stopd s)) ∧ w = w' := by
  have hw0 : IntKind.i64.wrap ((s.size : Int) - 1) = (s.size : Int) - 1 := by rw [IntKind.wrap_i64]; omega
  go_enter Try.func52, Try.ntmps52
  go_wp2
  go_loop [3] (fun i => ∃ k : Nat, k ≤ s.size ∧ i = .int .i64 ((k : Int) - 1) ∧ Hid (stopd s = due s false k)) (fun i => (RowKit.intOf i + 1).toNat)
  case atStart => exact ⟨s.size, Nat.le_refl _, rfl, rfl⟩
  case round =>
    obtain ⟨k, hk, rfl, hd⟩ := hrel
    clear hw0
    by_cases hkn : 0 < k
    · obtain ⟨q, rfl⟩ : ∃ q, k = q + 1 := ⟨k - 1, by omega⟩
      rw [show ((q + 1 : Nat) : Int) - 1 = (q : Int) by omega]
      have hq : q < s.size := by omega
      have ho := fun W => of_any ((s[q]'hq).toNat) true W
      rw [kl_at] at ho
      have hst := fun W => stops_any s q W hq hz
      have dk : decide ((0 : Int) ≤ (q : Int)) = true := decide_eq_true (by omega)
      have hwq : IntKind.i64.wrap ((q : Int) - 1) = (q : Int) - 1 := by rw [IntKind.wrap_i64]; omega
      clear hkn hk
      by_cases h0 : kl s true q = 0
      · have HS := Lib.hid (due_skip (d := false) h0)
        rw [h0] at ho
        clear h0 hst
        go_wp2_with fail
        refine (ho _).mono ?_
        rintro e w' ⟨rfl, rfl⟩
        clear ho
        go_wp2
        go_round
        case rel => exact ⟨q, by omega, rfl, hd.out.trans HS.out⟩
        case measure => simp [RowKit.intOf] <;> omega
      · have HS := Lib.hid (due_set (d := false) h0)
        have a1 : (kl s true q != 0) = true := by rw [bne_iff_ne]; exact h0
        generalize kl s true q = A at *
        clear h0
        go_wp2_with fail
        refine (ho _).mono ?_
        rintro e w' ⟨rfl, rfl⟩
        clear ho
        go_wp2_with fail
        refine (hst _).mono ?_
        rintro e w' ⟨rfl, rfl⟩
        clear hst
        go_wp2
        go_ret
        exact ⟨ret_bool (by rw [hd.out, HS.out]), rfl⟩
    · obtain rfl : k = 0 := by omega
      go_wp2
      go_ret
      exact ⟨ret_bool (by rw [hd.out]; rfl), rfl⟩

def BlOut (s : ByteArray) (w : World) (e : Ending) (w' : World) : Prop := ∃ q, e = .returned (.bool q) ∧ w = w' ∧ (if q = true then ∀ c, c < s.size → kl s true c = 0 else ∃ c, c < s.size ∧ kl s true c ≠ 0)
theorem blank5_any (s : ByteArray) (w : World) (hz : s.size ≤ 140737488355328) :
    Calls Try.prog 42 #[.string s] w (BlOut s w) := by
  go_enter Try.func42, Try.ntmps42
  go_wp2
  go_loop [3] (fun i => ∃ k : Nat, k ≤ s.size ∧ i = .int .i64 k ∧ Hid (∀ c, c < k → kl s true c = 0)) (fun i => s.size - (RowKit.intOf i).toNat)
  case atStart => exact ⟨0, Nat.zero_le _, rfl, fun c hc => by omega⟩
  case round =>
    obtain ⟨k, hk, rfl, hd⟩ := hrel
    by_cases hkn : k < s.size
    · have ho := fun W => of5_any ((s[k]'hkn).toNat) true W
      rw [kl_at] at ho
      by_cases h0 : kl s true k = 0
      · have HS := Lib.hid h0
        rw [h0] at ho
        clear h0
        go_wp2_with fail
        refine (ho _).mono ?_
        rintro e w' ⟨rfl, rfl⟩
        clear ho
        go_wp2
        go_round
        case rel => exact ⟨k + 1, by omega, by go_num, fun c hc => by
          by_cases he : c = k
          · subst he; exact HS.out
          · exact hd.out c (by omega)⟩
        case measure => simp [RowKit.intOf]; omega
      · have HS := Lib.hid h0
        have a1 : (kl s true k != 0) = true := by rw [bne_iff_ne]; exact h0
        clear h0
        obtain ⟨A, hA⟩ : ∃ A, A = kl s true k := ⟨_, rfl⟩
        rw [← hA] at ho a1
        clear hA
        go_wp2_with fail
        refine (ho _).mono ?_
        rintro e w' ⟨rfl, rfl⟩
        clear ho
        go_wp2
        go_ret
        exact ⟨false, rfl, rfl, k, hkn, HS.out⟩
    · obtain rfl : k = s.size := by omega
      go_wp2
      go_ret
      exact ⟨true, rfl, rfl, fun c hc => hd.out c hc⟩

theorem opens_any (a : Option Addr) (n c : Nat) (ls : List ByteArray) (i : Nat) (w : World) (h : Ss w a n c ls) (hs : ∀ s ∈ ls, s.size ≤ 140737488355328) (hi : i < n) :
    Calls Try.prog 49 #[.slice a n c, .int .i64 i] w fun e w' => e = .returned (.bool (op ls i)) ∧ w = w' := by
  have hn := h.le63
  have hlen := h.length
  by_cases hi0 : i = 0
  · subst hi0
    have hv : op ls 0 = true := by unfold op; split <;> rfl
    rw [hv]
    clear hv
    go_enter Try.func49, Try.ntmps49
    go_wp2
    go_ret
    exact ⟨rfl, rfl⟩
  · obtain ⟨k, hk⟩ : ∃ k, i = k + 1 := ⟨i - 1, by omega⟩
    obtain ⟨b, o, rfl, hcx, hnc, _⟩ := h.read i (by omega)
    obtain ⟨b', o', he', hcy, _, _⟩ := h.read k (by omega)
    obtain ⟨rfl, rfl⟩ : b' = b ∧ o' = o := by
      injection he' with he'
      injection he' with h1 h2
      exact ⟨h1.symm, h2.symm⟩
    have hlx := lineAt_get (ls := ls) (k := i) (by omega)
    have hly := lineAt_get (ls := ls) (k := k) (by omega)
    have hsy := hs (ls[k]'(by omega)) (List.getElem_mem (by omega))
    rw [← hlx] at hcx
    rw [← hly] at hcy hsy
    have b0 : ((i : Int) == 0) = false := by rw [beq_eq_false_iff_ne]; omega
    have hw : IntKind.i64.wrap ((i : Int) - 1) = (k : Int) := by rw [IntKind.wrap_i64]; omega
    have hkn : k < n := by omega
    by_cases hx : (lineAt ls i).size = 0
    · have ex := empty_of_zero hx
      by_cases hy : (lineAt ls k).size = 0
      · have ey := empty_of_zero hy
        have hv : op ls i = false := by rw [op_empty hx, hk, show k + 1 - 1 = k by omega, decide_eq_false (by omega), decide_eq_false (by omega)]; rfl
        rw [hv]
        clear hv hx hy hlx hly h hs he' hi0 hk
        go_enter Try.func49, Try.ntmps49
        go_wp2
        go_ret
        exact ⟨rfl, rfl⟩
      · have ey := empty_of_pos (x := lineAt ls k) (by omega)
        have hv : op ls i = true := by rw [op_empty hx, hk, show k + 1 - 1 = k by omega, decide_eq_false (by omega), decide_eq_true (by omega)]; rfl
        rw [hv]
        clear hv hx hy hlx hly h hs he' hi0 hk
        go_enter Try.func49, Try.ntmps49
        go_wp2
        go_ret
        exact ⟨rfl, rfl⟩
    · have ex := empty_of_pos (x := lineAt ls i) (by omega)
      by_cases hy : (lineAt ls k).size = 0
      · have ey := empty_of_zero hy
        have hv : op ls i = true := by rw [op_full (by omega), hk, fr_empty hy]
        rw [hv]
        clear hv hx hy hlx hly h hs he' hi0 hk
        go_enter Try.func49, Try.ntmps49
        go_wp2
        go_ret
        exact ⟨rfl, rfl⟩
      · have ey := empty_of_pos (x := lineAt ls k) (by omega)
        have hv : op ls i = stopd (lineAt ls k) := by rw [op_full (by omega), hk, fr_full (by omega)]
        rw [hv]
        have hst := fun W => stopped_any (lineAt ls k) W hsy
        clear hv hx hy hlx hly h hs he' hi0 hk
        go_enter Try.func49, Try.ntmps49
        go_wp2_with fail
        refine (hst _).mono ?_
        rintro e w' ⟨rfl, rfl⟩
        clear hst
        go_wp2
        go_ret
        exact ⟨rfl, rfl⟩

theorem top_cl (ls : List ByteArray) {i : Nat} (h : i < ls.length) (past : Bool) : clC ls (i : Int) ((lineAt ls i).size : Int) past = top (lineAt ls i) past := by
  unfold clC clL
  rw [cl_in h]
  generalize lineAt ls i = s
  unfold top
  cases past
  · rw [if_neg (by decide)]; unfold cl; omega
  · rw [if_pos rfl]; unfold cl; omega
end Go.Proofs.Ytnngcminomooeaa.Pa
