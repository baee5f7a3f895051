/-
  Package para and the document: the helps that need no iterator.
-/
import Derived.Test.YtpdbfdhfonfbeaaGl
import Derived.Test.YtpdbfdhfonfbeaaQp
import Derived.Test.YtpdbfdhfonfbeaaMp
import Derived.Test.YtpdbfdhfonfbeaaZb
set_option linter.unusedVariables false
set_option linter.unusedSimpArgs false
set_option maxRecDepth 100000
namespace Go.Proofs.Ytpdbfdhfonfbeaa.Pa
open Go Go.RowKit Go.Proofs.Ytpdbfdhfonfbeaa.Vk Go.Proofs.Ytpdbfdhfonfbeaa.Str Go.Proofs.Ytpdbfdhfonfbeaa.Ln Go.Proofs.Ytpdbfdhfonfbeaa.Cl Go.Proofs.Ytpdbfdhfonfbeaa.Mv Go.Proofs.Ytpdbfdhfonfbeaa.Wd
attribute [local go_sem] Oper.semAt_some

theorem stops_any (s : ByteArray) (j : Nat) (w : World) (hj : j < s.size) (hz : s.size ≤ 140737488355328) :
    Calls Try.prog 49 #[.string s, .int .i64 j] w fun e w' => e = .returned (.bool (stp s j)) ∧ w = w' := by
  have hw1 : IntKind.i64.wrap ((s.size : Int) - 1) = (s.size : Int) - 1 := by rw [IntKind.wrap_i64]; omega
  by_cases hc : bt s j = 46 ∨ bt s j = 33 ∨ bt s j = 63
  · have hc' := hc
    rcases hc' with h | h | h
    · have e0 : (((s[j]'hj).toNat : Int) == 46) = true := by rw [bt_at]; rw [beq_iff_eq]; exact h
      have e1 : (((s[j]'hj).toNat : Int) == 33) = false := by rw [bt_at]; rw [beq_eq_false_iff_ne]; omega
      have e2 : (((s[j]'hj).toNat : Int) == 63) = false := by rw [bt_at]; rw [beq_eq_false_iff_ne]; omega
      clear h
      by_cases hl : j + 1 = s.size
      · have hv : stp s j = true := by unfold stp; rw [decide_eq_true hc, decide_eq_true hl]; rfl
        have b0 : ((j : Int) == (s.size : Int) - 1) = true := by rw [beq_iff_eq]; omega
        rw [hv]
        clear hv hc hl
        go_enter Try.func49, Try.ntmps49
        go_wp2
        go_ret
        exact ⟨rfl, rfl⟩
      · obtain ⟨k, hkj⟩ : ∃ k, k = j + 1 := ⟨_, rfl⟩
        have hk : k < s.size := by omega
        have h2 := fun W => of_any ((s[k]'hk).toNat) true W
        rw [kl_at] at h2
        have hv : stp s j = decide (kl s true k = 0) := by unfold stp; rw [decide_eq_true hc, decide_eq_false hl, ← hkj]; rfl
        have hw : IntKind.i64.wrap ((j : Int) + 1) = (k : Int) := by rw [IntKind.wrap_i64]; omega
        have b0 : ((j : Int) == (s.size : Int) - 1) = false := by rw [beq_eq_false_iff_ne]; omega
        rw [hv]
        generalize kl s true k = A at *
        clear hv hc hl hkj
        go_enter Try.func49, Try.ntmps49
        go_wp2_with fail
        refine (h2 _).mono ?_
        rintro e w' ⟨rfl, rfl⟩
        clear h2
        go_wp2
        go_ret
        exact ⟨ret_bool (by by_cases hA : A = 0 <;> simp [hA]), rfl⟩
    · have e0 : (((s[j]'hj).toNat : Int) == 46) = false := by rw [bt_at]; rw [beq_eq_false_iff_ne]; omega
      have e1 : (((s[j]'hj).toNat : Int) == 33) = true := by rw [bt_at]; rw [beq_iff_eq]; exact h
      have e2 : (((s[j]'hj).toNat : Int) == 63) = false := by rw [bt_at]; rw [beq_eq_false_iff_ne]; omega
      clear h
      by_cases hl : j + 1 = s.size
      · have hv : stp s j = true := by unfold stp; rw [decide_eq_true hc, decide_eq_true hl]; rfl
        have b0 : ((j : Int) == (s.size : Int) - 1) = true := by rw [beq_iff_eq]; omega
        rw [hv]
        clear hv hc hl
        go_enter Try.func49, Try.ntmps49
        go_wp2
        go_ret
        exact ⟨rfl, rfl⟩
      · obtain ⟨k, hkj⟩ : ∃ k, k = j + 1 := ⟨_, rfl⟩
        have hk : k < s.size := by omega
        have h2 := fun W => of_any ((s[k]'hk).toNat) true W
        rw [kl_at] at h2
        have hv : stp s j = decide (kl s true k = 0) := by unfold stp; rw [decide_eq_true hc, decide_eq_false hl, ← hkj]; rfl
        have hw : IntKind.i64.wrap ((j : Int) + 1) = (k : Int) := by rw [IntKind.wrap_i64]; omega
        have b0 : ((j : Int) == (s.size : Int) - 1) = false := by rw [beq_eq_false_iff_ne]; omega
        rw [hv]
        generalize kl s true k = A at *
        clear hv hc hl hkj
        go_enter Try.func49, Try.ntmps49
        go_wp2_with fail
        refine (h2 _).mono ?_
        rintro e w' ⟨rfl, rfl⟩
        clear h2
        go_wp2
        go_ret
        exact ⟨ret_bool (by by_cases hA : A = 0 <;> simp [hA]), rfl⟩
    · have e0 : (((s[j]'hj).toNat : Int) == 46) = false := by rw [bt_at]; rw [beq_eq_false_iff_ne]; omega
      have e1 : (((s[j]'hj).toNat : Int) == 33) = false := by rw [bt_at]; rw [beq_eq_false_iff_ne]; omega
      have e2 : (((s[j]'hj).toNat : Int) == 63) = true := by rw [bt_at]; rw [beq_iff_eq]; exact h
      clear h
      by_cases hl : j + 1 = s.size
      · have hv : stp s j = true := by unfold stp; rw [decide_eq_true hc, decide_eq_true hl]; rfl
        have b0 : ((j : Int) == (s.size : Int) - 1) = true := by rw [beq_iff_eq]; omega
        rw [hv]
        clear hv hc hl
        go_enter Try.func49, Try.ntmps49
        go_wp2
        go_ret
        exact ⟨rfl, rfl⟩
      · obtain ⟨k, hkj⟩ : ∃ k, k = j + 1 := ⟨_, rfl⟩
        have hk : k < s.size := by omega
        have h2 := fun W => of_any ((s[k]'hk).toNat) true W
        rw [kl_at] at h2
        have hv : stp s j = decide (kl s true k = 0) := by unfold stp; rw [decide_eq_true hc, decide_eq_false hl, ← hkj]; rfl
        have hw : IntKind.i64.wrap ((j : Int) + 1) = (k : Int) := by rw [IntKind.wrap_i64]; omega
        have b0 : ((j : Int) == (s.size : Int) - 1) = false := by rw [beq_eq_false_iff_ne]; omega
        rw [hv]
        generalize kl s true k = A at *
        clear hv hc hl hkj
        go_enter Try.func49, Try.ntmps49
        go_wp2_with fail
        refine (h2 _).mono ?_
        rintro e w' ⟨rfl, rfl⟩
        clear h2
        go_wp2
        go_ret
        exact ⟨ret_bool (by by_cases hA : A = 0 <;> simp [hA]), rfl⟩
  · have hv : stp s j = false := by unfold stp; rw [decide_eq_false hc]; rfl
    rw [hv]
    have e0 : (((s[j]'hj).toNat : Int) == 46) = false := by rw [bt_at, beq_eq_false_iff_ne]; omega
    have e1 : (((s[j]'hj).toNat : Int) == 33) = false := by rw [bt_at, beq_eq_false_iff_ne]; omega
    have e2 : (((s[j]'hj).toNat : Int) == 63) = false := by rw [bt_at, beq_eq_false_iff_ne]; omega
    clear hv hc
    go_enter Try.func49, Try.ntmps49
    go_wp2
    go_ret
    exact ⟨rfl, rfl⟩

theorem stop5_any (s : ByteArray) (j : Nat) (w : World) (hj : j < s.size) (hz : s.size ≤ 140737488355328) :
    Calls Try.prog 39 #[.string s, .int .i64 j] w fun e w' => e = .returned (.bool (stp s j)) ∧ w = w' := by
  have hw1 : IntKind.i64.wrap ((s.size : Int) - 1) = (s.size : Int) - 1 := by rw [IntKind.wrap_i64]; omega
  by_cases hc : bt s j = 46 ∨ bt s j = 33 ∨ bt s j = 63
  · have hc' := hc
    rcases hc' with h | h | h
    · have e0 : (((s[j]'hj).toNat : Int) == 46) = true := by rw [bt_at]; rw [beq_iff_eq]; exact h
      have e1 : (((s[j]'hj).toNat : Int) == 33) = false := by rw [bt_at]; rw [beq_eq_false_iff_ne]; omega
      have e2 : (((s[j]'hj).toNat : Int) == 63) = false := by rw [bt_at]; rw [beq_eq_false_iff_ne]; omega
      clear h
      by_cases hl : j + 1 = s.size
      · have hv : stp s j = true := by unfold stp; rw [decide_eq_true hc, decide_eq_true hl]; rfl
        have b0 : ((j : Int) == (s.size : Int) - 1) = true := by rw [beq_iff_eq]; omega
        rw [hv]
        clear hv hc hl
        go_enter Try.func39, Try.ntmps39
        go_wp2
        go_ret
        exact ⟨rfl, rfl⟩
      · obtain ⟨k, hkj⟩ : ∃ k, k = j + 1 := ⟨_, rfl⟩
        have hk : k < s.size := by omega
        have h2 := fun W => of5_any ((s[k]'hk).toNat) true W
        rw [kl_at] at h2
        have hv : stp s j = decide (kl s true k = 0) := by unfold stp; rw [decide_eq_true hc, decide_eq_false hl, ← hkj]; rfl
        have hw : IntKind.i64.wrap ((j : Int) + 1) = (k : Int) := by rw [IntKind.wrap_i64]; omega
        have b0 : ((j : Int) == (s.size : Int) - 1) = false := by rw [beq_eq_false_iff_ne]; omega
        rw [hv]
        generalize kl s true k = A at *
        clear hv hc hl hkj
        go_enter Try.func39, Try.ntmps39
        go_wp2_with fail
        refine (h2 _).mono ?_
        rintro e w' ⟨rfl, rfl⟩
        clear h2
        go_wp2
        go_ret
        exact ⟨ret_bool (by by_cases hA : A = 0 <;> simp [hA]), rfl⟩
    · have e0 : (((s[j]'hj).toNat : Int) == 46) = false := by rw [bt_at]; rw [beq_eq_false_iff_ne]; omega
      have e1 : (((s[j]'hj).toNat : Int) == 33) = true := by rw [bt_at]; rw [beq_iff_eq]; exact h
      have e2 : (((s[j]'hj).toNat : Int) == 63) = false := by rw [bt_at]; rw [beq_eq_false_iff_ne]; omega
      clear h
      by_cases hl : j + 1 = s.size
      · have hv : stp s j = true := by unfold stp; rw [decide_eq_true hc, decide_eq_true hl]; rfl
        have b0 : ((j : Int) == (s.size : Int) - 1) = true := by rw [beq_iff_eq]; omega
        rw [hv]
        clear hv hc hl
        go_enter Try.func39, Try.ntmps39
        go_wp2
        go_ret
        exact ⟨rfl, rfl⟩
      · obtain ⟨k, hkj⟩ : ∃ k, k = j + 1 := ⟨_, rfl⟩
        have hk : k < s.size := by omega
        have h2 := fun W => of5_any ((s[k]'hk).toNat) true W
        rw [kl_at] at h2
        have hv : stp s j = decide (kl s true k = 0) := by unfold stp; rw [decide_eq_true hc, decide_eq_false hl, ← hkj]; rfl
        have hw : IntKind.i64.wrap ((j : Int) + 1) = (k : Int) := by rw [IntKind.wrap_i64]; omega
        have b0 : ((j : Int) == (s.size : Int) - 1) = false := by rw [beq_eq_false_iff_ne]; omega
        rw [hv]
        generalize kl s true k = A at *
        clear hv hc hl hkj
        go_enter Try.func39, Try.ntmps39
        go_wp2_with fail
        refine (h2 _).mono ?_
        rintro e w' ⟨rfl, rfl⟩
        clear h2
        go_wp2
        go_ret
        exact ⟨ret_bool (by by_cases hA : A = 0 <;> simp [hA]), rfl⟩
    · have e0 : (((s[j]'hj).toNat : Int) == 46) = false := by rw [bt_at]; rw [beq_eq_false_iff_ne]; omega
      have e1 : (((s[j]'hj).toNat : Int) == 33) = false := by rw [bt_at]; rw [beq_eq_false_iff_ne]; omega
      have e2 : (((s[j]'hj).toNat : Int) == 63) = true := by rw [bt_at]; rw [beq_iff_eq]; exact h
      clear h
      by_cases hl : j + 1 = s.size
      · have hv : stp s j = true := by unfold stp; rw [decide_eq_true hc, decide_eq_true hl]; rfl
        have b0 : ((j : Int) == (s.size : Int) - 1) = true := by rw [beq_iff_eq]; omega
        rw [hv]
        clear hv hc hl
        go_enter Try.func39, Try.ntmps39
        go_wp2
        go_ret
        exact ⟨rfl, rfl⟩
      · obtain ⟨k, hkj⟩ : ∃ k, k = j + 1 := ⟨_, rfl⟩
        have hk : k < s.size := by omega
        have h2 := fun W => of5_any ((s[k]'hk).toNat) true W
        rw [kl_at] at h2
        have hv : stp s j = decide (kl s true k = 0) := by unfold stp; rw [decide_eq_true hc, decide_eq_false hl, ← hkj]; rfl
        have hw : IntKind.i64.wrap ((j : Int) + 1) = (k : Int) := by rw [IntKind.wrap_i64]; omega
        have b0 : ((j : Int) == (s.size : Int) - 1) = false := by rw [beq_eq_false_iff_ne]; omega
        rw [hv]
        generalize kl s true k = A at *
        clear hv hc hl hkj
        go_enter Try.func39, Try.ntmps39
        go_wp2_with fail
        refine (h2 _).mono ?_
        rintro e w' ⟨rfl, rfl⟩
        clear h2
        go_wp2
        go_ret
        exact ⟨ret_bool (by by_cases hA : A = 0 <;> simp [hA]), rfl⟩
  · have hv : stp s j = false := by unfold stp; rw [decide_eq_false hc]; rfl
    rw [hv]
    have e0 : (((s[j]'hj).toNat : Int) == 46) = false := by rw [bt_at, beq_eq_false_iff_ne]; omega
    have e1 : (((s[j]'hj).toNat : Int) == 33) = false := by rw [bt_at, beq_eq_false_iff_ne]; omega
    have e2 : (((s[j]'hj).toNat : Int) == 63) = false := by rw [bt_at, beq_eq_false_iff_ne]; omega
    clear hv hc
    go_enter Try.func39, Try.ntmps39
    go_wp2
    go_ret
    exact ⟨rfl, rfl⟩

theorem stopped_any (s : ByteArray) (w : World) (hz : s.size ≤ 140737488355328) :
    Calls Try.prog 52 #[.string s] w fun e w' => e = .returned (.bool (stopd s)) ∧ w = w' := by
  have hw0 : IntKind.i64.wrap ((s.size : Int) - 1) = (s.size : Int) - 1 := by rw [IntKind.wrap_i64]; omega
  go_enter Try.func52, Try.ntmps52
  go_wp2
  go_loop [3] (fun i => ∃ k : Nat, k ≤ s.size ∧ i = .int .i64 ((k : Int) - 1) ∧ Hid (stopd s = due s false k)) (fun i => (RowKit.intOf i + 1).toNat)
  case atStart => exact ⟨s.size, Nat.le_refl _, rfl, rfl⟩
  case round =>
    obtain ⟨k, hk, rfl, hd⟩ := hrel
    clear hw0
    by_cases hkn : 0 < k
    · obtain ⟨q, rfl⟩ : ∃ q, k = q + 1 := ⟨k - 1, by omega⟩
      rw [show ((q + 1 : Nat) : Int) - 1 = (q : Int) by omega]
      have hq : q < s.size := by omega
      have ho := fun W => of_any ((s[q]'hq).toNat) true W
      rw [kl_at] at ho
      have hst := fun W => stops_any s q W hq hz
      have dk : decide ((0 : Int) ≤ (q : Int)) = true := decide_eq_true (by omega)
      have hwq : IntKind.i64.wrap ((q : Int) - 1) = (q : Int) - 1 := by rw [IntKind.wrap_i64]; omega
      clear hkn hk
      by_cases h0 : kl s true q = 0
      · have HS := Lib.hid (due_skip (d := false) h0)
        rw [h0] at ho
        clear h0 hst
        go_wp2_with fail
        refine (ho _).mono ?_
        rintro e w' ⟨rfl, rfl⟩
        clear ho
        go_wp2
        go_round
        case rel => exact ⟨q, by omega, rfl, hd.out.trans HS.out⟩
        case measure => simp [RowKit.intOf] <;> omega
      · have HS := Lib.hid (due_set (d := false) h0)
        have a1 : (kl s true q != 0) = true := by rw [bne_iff_ne]; exact h0
        generalize kl s true q = A at *
        clear h0
        go_wp2_with fail
        refine (ho _).mono ?_
        rintro e w' ⟨rfl, rfl⟩
        clear ho
        go_wp2_with fail
        refine (hst _).mono ?_
        rintro e w' ⟨rfl, rfl⟩
        clear hst
        go_wp2
        go_ret
        exact ⟨ret_bool (by rw [hd.out, HS.out]), rfl⟩
    · obtain rfl : k = 0 := by omega
      go_wp2
      go_ret
      exact ⟨ret_bool (by rw [hd.out]; rfl), rfl⟩

def BlOut (s : ByteArray) (w : World) (e : Ending) (w' : World) : Prop := ∃ q, e = .returned (.bool q) ∧ w = w' ∧ (if q = true then ∀ c, c < s.size → kl s true c = 0 else ∃ c, c < s.size ∧ kl s true c ≠ 0)
theorem blank5_any (s : ByteArray) (w : World) (hz : s.size ≤ 140737488355328) :
    Calls Try.prog 40 #[.string s] w (BlOut s w) := by
  go_enter Try.func40, Try.ntmps40
  go_wp2
  go_loop [3] (fun i => ∃ k : Nat, k ≤ s.size ∧ i = .int .i64 k ∧ Hid (∀ c, c < k → kl s true c = 0)) (fun i => s.size - (RowKit.intOf i).toNat)
  case atStart => exact ⟨0, Nat.zero_le _, rfl, fun c hc => by omega⟩
  case round =>
    obtain ⟨k, hk, rfl, hd⟩ := hrel
    by_cases hkn : k < s.size
    · have ho := fun W => of5_any ((s[k]'hkn).toNat) true W
      rw [kl_at] at ho
      by_cases h0 : kl s true k = 0
      · have HS := Lib.hid h0
        rw [h0] at ho
        clear h0
        go_wp2_with fail
        refine (ho _).mono ?_
        rintro e w' ⟨rfl, rfl⟩
        clear ho
        go_wp2
        go_round
        case rel => exact ⟨k + 1, by omega, by go_num, fun c hc => by
          by_cases he : c = k
          · subst he; exact HS.out
          · exact hd.out c (by omega)⟩
        case measure => simp [RowKit.intOf]; omega
      · have HS := Lib.hid h0
        have a1 : (kl s true k != 0) = true := by rw [bne_iff_ne]; exact h0
        clear h0
        obtain ⟨A, hA⟩ : ∃ A, A = kl s true k := ⟨_, rfl⟩
        rw [← hA] at ho a1
        clear hA
        go_wp2_with fail
        refine (ho _).mono ?_
        rintro e w' ⟨rfl, rfl⟩
        clear ho
        go_wp2
        go_ret
        exact ⟨false, rfl, rfl, k, hkn, HS.out⟩
    · obtain rfl : k = s.size := by omega
      go_wp2
      go_ret
      exact ⟨true, rfl, rfl, fun c hc => hd.out c hc⟩

theorem opens_any (a : Option Addr) (n c : Nat) (ls : List ByteArray) (i : Nat) (w : World) (h : Ss w a n c ls) (hs : ∀ s ∈ ls, s.size ≤ 140737488355328) (hi : i < n) :
    Calls Try.prog 47 #[.slice a n c, .int .i64 i] w fun e w' => e = .returned (.bool (op ls i)) ∧ w = w' := by
  have hn := h.le63
  have hlen := h.length
  by_cases hi0 : i = 0
  · subst hi0
    have hv : op ls 0 = true := by unfold op; split <;> rfl
    rw [hv]
    clear hv
    go_enter Try.func47, Try.ntmps47
    go_wp2
    go_ret
    exact ⟨rfl, rfl⟩
  · obtain ⟨k, hk⟩ : ∃ k, i = k + 1 := ⟨i - 1, by omega⟩
    obtain ⟨b, o, rfl, hcx, hnc, _⟩ := h.read i (by omega)
    obtain ⟨b', o', he', hcy, _, _⟩ := h.read k (by omega)
    obtain ⟨rfl, rfl⟩ : b' = b ∧ o' = o := by
      injection he' with he'
      injection he' with h1 h2
      exact ⟨h1.symm, h2.symm⟩
    have hlx := lineAt_get (ls := ls) (k := i) (by omega)
    have hly := lineAt_get (ls := ls) (k := k) (by omega)
    have hsy := hs (ls[k]'(by omega)) (List.getElem_mem (by omega))
    rw [← hlx] at hcx
    rw [← hly] at hcy hsy
    have b0 : ((i : Int) == 0) = false := by rw [beq_eq_false_iff_ne]; omega
    have hw : IntKind.i64.wrap ((i : Int) - 1) = (k : Int) := by rw [IntKind.wrap_i64]; omega
    have hkn : k < n := by omega
    by_cases hx : (lineAt ls i).size = 0
    · have ex := empty_of_zero hx
      by_cases hy : (lineAt ls k).size = 0
      · have ey := empty_of_zero hy
        have hv : op ls i = false := by rw [op_empty hx, hk, show k + 1 - 1 = k by omega, decide_eq_false (by omega), decide_eq_false (by omega)]; rfl
        rw [hv]
        clear hv hx hy hlx hly h hs he' hi0 hk
        go_enter Try.func47, Try.ntmps47
        go_wp2
        go_ret
        exact ⟨rfl, rfl⟩
      · have ey := empty_of_pos (x := lineAt ls k) (by omega)
        have hv : op ls i = true := by rw [op_empty hx, hk, show k + 1 - 1 = k by omega, decide_eq_false (by omega), decide_eq_true (by omega)]; rfl
        rw [hv]
        clear hv hx hy hlx hly h hs he' hi0 hk
        go_enter Try.func47, Try.ntmps47
        go_wp2
        go_ret
        exact ⟨rfl, rfl⟩
    · have ex := empty_of_pos (x := lineAt ls i) (by omega)
      by_cases hy : (lineAt ls k).size = 0
      · have ey := empty_of_zero hy
        have hv : op ls i = true := by rw [op_full (by omega), hk, fr_empty hy]
        rw [hv]
        clear hv hx hy hlx hly h hs he' hi0 hk
        go_enter Try.func47, Try.ntmps47
        go_wp2
        go_ret
        exact ⟨rfl, rfl⟩
      · have ey := empty_of_pos (x := lineAt ls k) (by omega)
        have hv : op ls i = stopd (lineAt ls k) := by rw [op_full (by omega), hk, fr_full (by omega)]
        rw [hv]
        have hst := fun W => stopped_any (lineAt ls k) W hsy
        clear hv hx hy hlx hly h hs he' hi0 hk
        go_enter Try.func47, Try.ntmps47
        go_wp2_with fail
        refine (hst _).mono ?_
        rintro e w' ⟨rfl, rfl⟩
        clear hst
        go_wp2
        go_ret
        exact ⟨rfl, rfl⟩

theorem counted_any (n : Int) (w : World) : Calls Try.prog 27 #[.int .i64 n] w fun e w' => e = .returned (.int .i64 (min n 1073741824)) ∧ w = w' := by
  go_enter Try.func27, Try.ntmps27
  go_wp2
  all_goals go_ret
  all_goals exact ⟨ret_int (by omega), rfl⟩

theorem inside_any (a : Option Addr) (n c' : Nat) (ls : List ByteArray) (l c : Int) (w : World) (h : Ss w a n c' ls) (hs : ∀ s ∈ ls, s.size ≤ 140737488355328) :
    Calls Try.prog 26 #[.slice a n c', .agg #[.int .i64 l, .int .i64 c]] w fun e w' => e = .returned (.bool (decide (Plc ls l c))) ∧ Below w.heap.size w w' := by
  have hlen := h.length
  obtain ⟨X, hX⟩ : ∃ X, X = w.alloc (.cells #[.int .i64 l, .int .i64 c] 24) := ⟨_, rfl⟩
  have hb0 : Below w.heap.size w X := by rw [hX]; exact (Below.refl _ w).alloc (Nat.le_refl _) _
  have hp : PosAt X w.heap.size l c := by rw [hX]; exact PosAt.new w l c
  have HX := Lib.hid hX
  have HB := Lib.hid hb0
  by_cases h0 : 0 < n
  · have f0 := fun z : Gr X => z.cell hp.c0
    have f1 := fun z : Gr X => z.cell hp.c1
    have hx := SrcV.below h hb0
    have h5 := fun z : Gr X => clamp_any a n c' ls l c true z.W (SrcV.below hx z.below) hs
    have he := fun W => eq_pos (clL ls l) (clC ls l c true) l c W
    have d0 : decide (0 < n) = true := decide_eq_true h0
    rw [← plc_cl (by omega)]
    clear h hx hX hb0 hs hp hlen
    go_enter Try.func26, Try.ntmps26
    go_wp2
    rw [← HX.out]
    refine wp_region_grow (by kernel_rfl) (by kernel_rfl) ?_
    repeat (go_big_quiet_step (first | (go_at_call 44; exact Calls.grow_of (h5 _))))
    refine wpQuiet_nil ?_
    rintro _ ⟨⟨X5, hX5⟩, rfl⟩
    go_wp2
    go_ret
    exact ⟨rfl, HB.out.trans (hX5.mono HB.out.size)⟩
  · obtain rfl : n = 0 := by omega
    have hd : decide (Plc ls l c) = false := decide_eq_false fun hp => by have := hp.1; have := hp.2.1; omega
    rw [hd]
    clear h hX hb0 hs hp hlen hd
    go_enter Try.func26, Try.ntmps26
    go_wp2
    rw [← HX.out]
    refine wp_region_grow (by kernel_rfl) (by kernel_rfl) ?_
    repeat (go_big_quiet_step (fail))
    refine wpQuiet_nil ?_
    rintro _ ⟨⟨X5, hX5⟩, rfl⟩
    go_wp2
    go_ret
    exact ⟨rfl, HB.out.trans (hX5.mono HB.out.size)⟩

theorem jump_any (l c : Int) (w : World) : Calls Try.prog 30 #[.agg #[.int .i64 l, .int .i64 c]] w fun e w' => e = .returned (mvv l c 0 true (-1)) ∧ Below w.heap.size w w' := by
  go_enter Try.func30, Try.ntmps30
  go_wp2
  exact bodyPost_ret (results_cell_row (P := Try.prog) rfl _ _ (w.heap.size + 1) _ #[.int .i64 l, .int .i64 c, .int .i64 0, .bool true, .int .i64 (-1)] _ _ rfl (two_new w _ _) Try.underlying32 rfl (by kernel_rfl)) rfl ⟨rfl, two_below _ _ _⟩
theorem jump5_any (l c : Int) (w : World) : Calls Try.prog 34 #[.agg #[.int .i64 l, .int .i64 c]] w fun e w' => e = .returned (.tuple #[mvv l c 0 true (-1), .bool true]) ∧ Below w.heap.size w w' := by
  go_enter Try.func34, Try.ntmps34
  go_wp2
  exact ret_mv (r := ⟨l, c, 0, true, -1, true⟩) (g := w.heap.size + 1) rfl rfl rfl rfl (two_new w _ _) ⟨rfl, two_below _ _ _⟩

theorem top_cl (ls : List ByteArray) {i : Nat} (h : i < ls.length) (past : Bool) : clC ls (i : Int) ((lineAt ls i).size : Int) past = top (lineAt ls i) past := by
  unfold clC clL
  rw [cl_in h]
  generalize lineAt ls i = s
  unfold top
  cases past
  · rw [if_neg (by decide)]; unfold cl; omega
  · rw [if_pos rfl]; unfold cl; omega
theorem last_any (a : Option Addr) (n c' : Nat) (ls : List ByteArray) (past : Bool) (w : World) (h : Ss w a n c' ls) (hs : ∀ s ∈ ls, s.size ≤ 140737488355328) (h0 : 0 < n) :
    Calls Try.prog 41 #[.slice a n c', .bool past] w fun e w' => e = .returned (.agg #[.int .i64 (lastP ls past).1, .int .i64 (lastP ls past).2]) ∧ Below w.heap.size w w' := by
  have hlen := h.length
  have hn := h.le63
  obtain ⟨i, hi⟩ : ∃ i, i = n - 1 := ⟨_, rfl⟩
  have hil : i < ls.length := by omega
  have hin : i < n := by omega
  have hw : IntKind.i64.wrap ((n : Int) - 1) = (i : Int) := by rw [IntKind.wrap_i64]; omega
  have hv : lastP ls past = (i, top (lineAt ls i) past) := by unfold lastP; rw [show ls.length - 1 = i by omega]
  rw [hv]
  have h3 := fun W (hW : Below w.heap.size w W) => clamp_any a n c' ls i ((lineAt ls i).size : Nat) past W (SrcV.below h hW) hs
  rw [top_cl ls hil, show clL ls (i : Int) = i from cl_in hil] at h3
  obtain ⟨b, o, rfl, hc, hnc, _⟩ := h.read i hil
  rw [← lineAt_get hil] at hc
  obtain ⟨X, hX⟩ : ∃ X, X = w.alloc (.cells #[.int .i64 0, .int .i64 0] 24) := ⟨_, rfl⟩
  have hb0 : Below w.heap.size w X := by rw [hX]; exact (Below.refl _ w).alloc (Nat.le_refl _) _
  have hp : PosAt X w.heap.size 0 0 := by rw [hX]; exact PosAt.new w 0 0
  obtain ⟨B, hB⟩ : ∃ B, B = w.heap.size := ⟨_, rfl⟩
  rw [← hB] at hp
  have hBw : w.heap.size ≤ B := by omega
  have hcX := cell_later hb0 hc
  have h4 := h3 X hb0
  generalize top (lineAt ls i) past = Y at *
  generalize lineAt ls i = s at *
  have HX := Lib.hid (And.intro hX hB)
  have HP := Lib.hid hp
  have HB := Lib.hid hb0
  clear hX hB hp hb0 h3 hc hi hv h hs hlen
  go_enter Try.func41, Try.ntmps41
  go_upto_region 2 with fail
  rw [← HX.out.1, ← HX.out.2]
  go_wp2_with fail
  refine h4.mono ?_
  rintro e w1 ⟨rfl, hb1⟩
  have hp1 := HP.out.below hb1 HP.out.lt
  have p0 := hp1.c0
  have p1 := hp1.c1
  have z := fun k => frozen_of_row w1 B k _ _ hp1
  have HP1 := Lib.hid (And.intro hp1 (below_on HB.out hb1))
  clear h4 hb1 hp1
  go_wp2
  exact bodyPost_ret (results_cell_row (P := Try.prog) rfl _ _ B _ #[.int .i64 (i : Int), .int .i64 (Y : Int)] _ _ rfl (So.set2 HP1.out.1) Try.underlying24 rfl (by kernel_rfl)) rfl ⟨rfl, (HP1.out.2.setCell (p := ⟨B, 0, none⟩) hBw _).setCell (p := ⟨B, 1, none⟩) hBw _⟩


end Go.Proofs.Ytpdbfdhfonfbeaa.Pa
