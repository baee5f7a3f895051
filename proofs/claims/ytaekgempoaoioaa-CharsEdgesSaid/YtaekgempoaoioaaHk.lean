/-
  A byte that is sought: how many there are between two columns; package chars: after, before.
-/
import Derived.Test.YtaekgempoaoioaaHl
set_option linter.unusedVariables false
set_option linter.unusedSimpArgs false
set_option maxRecDepth 100000
namespace Go.Proofs.Ytaekgempoaoioaa.Ch
open Go Go.RowKit Go.Proofs.Ytaekgempoaoioaa.Vk Go.Proofs.Ytaekgempoaoioaa.Str Go.Proofs.Ytaekgempoaoioaa.Ln Go.Proofs.Ytaekgempoaoioaa.Cl Go.Proofs.Ytaekgempoaoioaa.Mv
attribute [local go_sem] Oper.semAt_some

/-- The byte at a column, or -1. -/
def atc (s : ByteArray) (j : Nat) : Int := if h : j < s.size then (s[j].toNat : Int) else -1
theorem atc_in {s : ByteArray} {j : Nat} (h : j < s.size) : atc s j = (s[j].toNat : Int) := dif_pos h
/-- How many of the d bytes from a on are c. -/
def cntc (s : ByteArray) (c : Int) (a : Nat) : Nat → Nat
  | 0 => 0
  | d + 1 => cntc s c a d + if atc s (a + d) = c then 1 else 0
theorem cntc_yes {s : ByteArray} {c : Int} {a d : Nat} (h : atc s (a + d) = c) : cntc s c a (d + 1) = cntc s c a d + 1 := by rw [cntc, if_pos h]
theorem cntc_no {s : ByteArray} {c : Int} {a d : Nat} (h : atc s (a + d) ≠ c) : cntc s c a (d + 1) = cntc s c a d := by rw [cntc, if_neg h]; rfl
theorem cntc_mono {s : ByteArray} {c : Int} {a d e : Nat} (h : d ≤ e) : cntc s c a d ≤ cntc s c a e := by
  induction e with
  | zero => obtain rfl : d = 0 := by omega
            exact Nat.le_refl _
  | succ e ih =>
    by_cases hd : d ≤ e
    · have h1 := ih hd
      have h2 : cntc s c a (e + 1) = cntc s c a e + if atc s (a + e) = c then 1 else 0 := rfl
      omega
    · obtain rfl : d = e + 1 := by omega
      exact Nat.le_refl _
theorem cntc_le {s : ByteArray} {c : Int} {a d : Nat} : cntc s c a d ≤ d := by
  induction d with
  | zero => exact Nat.le_refl _
  | succ d ih => unfold cntc; split <;> omega
/-- From the other end. -/
theorem cntc_front {s : ByteArray} {c : Int} {a d : Nat} : cntc s c a (d + 1) = (if atc s a = c then 1 else 0) + cntc s c (a + 1) d := by
  induction d with
  | zero => simp [cntc]
  | succ d ih => rw [cntc, ih, cntc, show a + (d + 1) = a + 1 + d by omega]; omega

/-- a and b are columns of which the later one is the N-th c behind the earlier one, or the other way round. -/
def Between (s : ByteArray) (c : Int) (N a b : Nat) : Prop := a < b ∧ b < s.size + 1 ∧ cntc s c (a + 1) (b - (a + 1)) + 1 = N
instance (s : ByteArray) (c : Int) (N a b : Nat) : Decidable (Between s c N a b) := by unfold Between; infer_instance
def seekF (s : ByteArray) (m : Nat) (c : Int) (N : Nat) : Option Nat := (List.range s.size).find? fun j => decide (Between s c N m j ∧ atc s j = c)
def seekB (s : ByteArray) (m : Nat) (c : Int) (N : Nat) : Option Nat := (List.range s.size).find? fun j => decide (Between s c N j m ∧ atc s j = c)
theorem find_one {n : Nat} {p : Nat → Bool} {j : Nat} (hj : j < n) (h : p j = true) (hu : ∀ k, k < n → p k = true → k = j) : (List.range n).find? p = some j := by
  cases hf : (List.range n).find? p with
  | none => exact absurd h (by rw [List.find?_eq_none] at hf; exact hf j (List.mem_range.2 hj))
  | some k => rw [hu k (List.mem_range.1 (List.mem_of_find?_eq_some hf)) (List.find?_some hf)]
theorem find_no {n : Nat} {p : Nat → Bool} (h : ∀ k, k < n → p k = true → False) : (List.range n).find? p = none := by
  rw [List.find?_eq_none]; exact fun k hk hp => h k (List.mem_range.1 hk) hp
theorem seekF_eq {s : ByteArray} {m : Nat} {c : Int} {N j : Nat} (h : Between s c N m j) (hc : atc s j = c) (hj : j < s.size) : seekF s m c N = some j := by
  refine find_one hj (decide_eq_true ⟨h, hc⟩) fun k hk hp => ?_
  obtain ⟨h2, hk2⟩ := of_decide_eq_true hp
  obtain ⟨a1, a2, a3⟩ := h
  obtain ⟨b1, b2, b3⟩ := h2
  rcases Nat.lt_trichotomy k j with hh | hh | hh
  · have e := cntc_yes (s := s) (c := c) (a := m + 1) (d := k - (m + 1)) (by rw [show m + 1 + (k - (m + 1)) = k by omega]; exact hk2)
    have := cntc_mono (s := s) (c := c) (a := m + 1) (show k - (m + 1) + 1 ≤ j - (m + 1) by omega)
    omega
  · exact hh
  · have e := cntc_yes (s := s) (c := c) (a := m + 1) (d := j - (m + 1)) (by rw [show m + 1 + (j - (m + 1)) = j by omega]; exact hc)
    have := cntc_mono (s := s) (c := c) (a := m + 1) (show j - (m + 1) + 1 ≤ k - (m + 1) by omega)
    omega
theorem seekF_no {s : ByteArray} {m : Nat} {c : Int} {N : Nat} (h : cntc s c (m + 1) (s.size - (m + 1)) < N) : seekF s m c N = none := by
  refine find_no fun k hk hp => ?_
  obtain ⟨⟨b1, b2, b3⟩, hk2⟩ := of_decide_eq_true hp
  have e := cntc_yes (s := s) (c := c) (a := m + 1) (d := k - (m + 1)) (by rw [show m + 1 + (k - (m + 1)) = k by omega]; exact hk2)
  have := cntc_mono (s := s) (c := c) (a := m + 1) (show k - (m + 1) + 1 ≤ s.size - (m + 1) by omega)
  omega
theorem seekF_get {s : ByteArray} {m : Nat} {c : Int} {N j : Nat} (h : seekF s m c N = some j) : Between s c N m j ∧ atc s j = c ∧ j < s.size := by
  unfold seekF at h
  have h0 := List.find?_some h
  have h1 := of_decide_eq_true h0
  exact ⟨h1.1, h1.2, List.mem_range.1 (List.mem_of_find?_eq_some h)⟩
/-- Behind: how the count between grows to the front. -/
theorem cntc_down {s : ByteArray} {c : Int} {j k m : Nat} (hj : j < k) (hk : k < m) (hc : atc s k = c) : cntc s c (k + 1) (m - (k + 1)) + 1 ≤ cntc s c (j + 1) (m - (j + 1)) := by
  obtain ⟨d, rfl⟩ : ∃ d, k = j + 1 + d := ⟨k - (j + 1), by omega⟩
  clear hj
  induction d generalizing j with
  | zero =>
    rw [show m - (j + 1) = (m - (j + 1 + 0 + 1)) + 1 by omega, cntc_front, if_pos (by simpa using hc)]
    simp only [Nat.add_zero]; omega
  | succ d ih =>
    have h1 := ih (j := j + 1) (by omega) (by rw [show j + 1 + 1 + d = j + 1 + (d + 1) by omega]; exact hc)
    rw [show j + 1 + 1 + d = j + 1 + (d + 1) by omega] at h1
    refine Nat.le_trans h1 ?_
    rw [show m - (j + 1) = (m - (j + 1 + 1)) + 1 by omega, cntc_front]
    omega
theorem seekB_eq {s : ByteArray} {m : Nat} {c : Int} {N j : Nat} (h : Between s c N j m) (hc : atc s j = c) : seekB s m c N = some j := by
  have hjm := h.1
  have hms := h.2.1
  refine find_one (by omega) (decide_eq_true ⟨h, hc⟩) fun k hk hp => ?_
  obtain ⟨h2, hk2⟩ := of_decide_eq_true hp
  obtain ⟨a1, a2, a3⟩ := h
  obtain ⟨b1, b2, b3⟩ := h2
  rcases Nat.lt_trichotomy k j with hh | hh | hh
  · have := cntc_down (s := s) (c := c) hh a1 hc; omega
  · exact hh
  · have := cntc_down (s := s) (c := c) hh b1 hk2; omega
theorem seekB_no {s : ByteArray} {m : Nat} {c : Int} {N : Nat} (h : cntc s c 0 m < N) : seekB s m c N = none := by
  refine find_no fun k hk hp => ?_
  obtain ⟨⟨b1, b2, b3⟩, hk2⟩ := of_decide_eq_true hp
  have : cntc s c (k + 1) (m - (k + 1)) + 1 ≤ cntc s c 0 m := by
    by_cases h0 : k = 0
    · subst h0
      rw [show cntc s c 0 m = cntc s c 0 ((m - 1) + 1) by rw [show m - 1 + 1 = m by omega], cntc_front, if_pos hk2]
      simp only [Nat.zero_add]; omega
    · have h1 := cntc_down (s := s) (c := c) (j := 0) (by omega) b1 hk2
      rw [show cntc s c 0 m = cntc s c 0 ((m - 1) + 1) by rw [show m - 1 + 1 = m by omega], cntc_front]
      simp only [Nat.zero_add] at h1 ⊢; omega
  omega

theorem ret_two {a b : Int} {p q : Bool} (h : a = b) (k : p = q) : Ending.returned (.tuple #[.int .i64 a, .bool p]) = Ending.returned (.tuple #[.int .i64 b, .bool q]) := by rw [h, k]
theorem byte_is {s : ByteArray} {j : Nat} {c : Int} (hj : j < s.size) (h : atc s j = c) : (((s[j]'hj).toNat : Int) != c) = false := by rw [← h, atc_in hj]; simp
theorem byte_isnt {s : ByteArray} {j : Nat} {c : Int} (hj : j < s.size) (h : atc s j ≠ c) : (((s[j]'hj).toNat : Int) != c) = true := by rw [atc_in hj] at h; simpa using h

theorem after_any (s : ByteArray) (m : Nat) (c : Int) (N : Nat) (w : World) (hs : s.size ≤ 140737488355328) (hm : m ≤ s.size) (hN : 1 ≤ N) (hN2 : N ≤ 1073741824) :
    Calls Try.prog 39 #[.string s, .int .i64 m, .int .u8 c, .int .i64 N] w fun e w' => e = .returned (.tuple #[.int .i64 ((seekF s m c N).getD 0 : Nat), .bool (seekF s m c N).isSome]) ∧ w = w' := by
  have hw0 : IntKind.i64.wrap ((s.size : Int) - (m : Int)) = (s.size : Int) - m := by rw [IntKind.wrap_i64]; omega
  have hw1 : IntKind.i64.wrap ((s.size : Int) - (m : Int) - 1) = (s.size : Int) - m - 1 := by rw [IntKind.wrap_i64]; omega
  go_enter Try.func39, Try.ntmps39
  go_wp2
  go_loop [3, 10, 16] (fun u _ i => ∃ q p : Nat, q ≤ s.size - (m + 1) ∧ i = .int .i64 q ∧ u = .int .i64 p ∧ 1 ≤ p ∧ Hid (p + cntc s c (m + 1) q = N)) (fun _ _ i => s.size - (RowKit.intOf i).toNat)
  case atStart => exact ⟨0, N, Nat.zero_le _, rfl, rfl, hN, rfl⟩
  case round =>
    obtain ⟨q, p, hq, rfl, rfl, hp, hcn⟩ := hrel
    by_cases hqn : q < s.size - (m + 1)
    · obtain ⟨m1, hm1⟩ : ∃ m1, m1 = m + 1 := ⟨_, rfl⟩
      obtain ⟨J, hJ⟩ : ∃ J, J = m + 1 + q := ⟨_, rfl⟩
      have hJn : J < s.size := by omega
      have e1 : IntKind.i64.wrap ((m : Int) + 1) = (m1 : Int) := by rw [IntKind.wrap_i64]; omega
      have e2 : IntKind.i64.wrap ((m1 : Int) + (q : Int)) = (J : Int) := by rw [IntKind.wrap_i64]; omega
      have hpN : p ≤ N := by have := hcn.out; omega
      have e3 : IntKind.i64.wrap ((p : Int) - 1) = ((p - 1 : Nat) : Int) := by rw [IntKind.wrap_i64]; omega
      have hlt : (q : Int) < (s.size : Int) - (m : Int) - 1 := by omega
      have HJ := Lib.hid (And.intro hJ hm1)
      by_cases hc : atc s J = c
      · have hb := byte_is hJn hc
        have HC := Lib.hid hc
        have hcl := cntc_le (s := s) (c := c) (a := m + 1) (d := q)
        clear hc hJ hm1
        by_cases hp1 : p = 1
        · subst hp1
          go_wp2
          go_ret2
          have hs1 : seekF s m c N = some J := seekF_eq ⟨by have := HJ.out.1; omega, by omega, by have := HJ.out.1; rw [show J - (m + 1) = q by omega]; have := hcn.out; omega⟩ HC.out hJn
          exact ⟨by rw [hs1]; rfl, rfl⟩
        · obtain ⟨p', hp'⟩ : ∃ p', p' = p - 1 := ⟨_, rfl⟩
          rw [← hp'] at e3
          have hz : ((p' : Int) == 0) = false := by rw [beq_eq_false_iff_ne]; omega
          have HP := Lib.hid hp'
          clear hp'
          go_wp2
          go_round
          case rel => exact ⟨q + 1, p', by omega, by go_num, rfl, by have := HP.out; omega, by
            have h1 := hcn.out
            have h2 := HP.out
            have h3 := HJ.out.1
            show _ = _
            rw [cntc_yes (by rw [← h3]; exact HC.out)]; omega⟩
          case measure => simp [RowKit.intOf]; omega
      · have hb := byte_isnt hJn hc
        have HC := Lib.hid hc
        clear hc hJ hm1
        go_wp2
        go_round
        case rel => exact ⟨q + 1, p, by omega, by go_num, rfl, hp, by
          have h1 := hcn.out
          have h3 := HJ.out.1
          show _ = _
          rw [cntc_no (by rw [← h3]; exact HC.out)]; exact h1⟩
        case measure => simp [RowKit.intOf]; omega
    · have hlt : ¬ (q : Int) < (s.size : Int) - (m : Int) - 1 := by omega
      go_wp2
      go_ret2
      have hs1 : seekF s m c N = none := seekF_no (by rw [show s.size - (m + 1) = q by omega]; have := hcn.out; omega)
      exact ⟨by rw [hs1]; rfl, rfl⟩

theorem before_any (s : ByteArray) (m : Nat) (c : Int) (N : Nat) (w : World) (hs : s.size ≤ 140737488355328) (hm : m ≤ s.size) (hN : 1 ≤ N) (hN2 : N ≤ 1073741824) :
    Calls Try.prog 40 #[.string s, .int .i64 m, .int .u8 c, .int .i64 N] w fun e w' => e = .returned (.tuple #[.int .i64 ((seekB s m c N).getD 0 : Nat), .bool (seekB s m c N).isSome]) ∧ w = w' := by
  go_enter Try.func40, Try.ntmps40
  go_wp2
  go_loop [3, 10, 12] (fun u _ i => ∃ q p : Nat, q ≤ m ∧ i = .int .i64 q ∧ u = .int .i64 p ∧ 1 ≤ p ∧ Hid (p + cntc s c (m - q) q = N)) (fun _ _ i => m - (RowKit.intOf i).toNat)
  case atStart => exact ⟨0, N, Nat.zero_le _, rfl, rfl, hN, rfl⟩
  case round =>
    obtain ⟨q, p, hq, rfl, rfl, hp, hcn⟩ := hrel
    by_cases hqn : q < m
    · obtain ⟨J, hJ⟩ : ∃ J, J = m - 1 - q := ⟨_, rfl⟩
      have hJn : J < s.size := by omega
      have e1 : IntKind.i64.wrap ((m : Int) - 1) = (m : Int) - 1 := by rw [IntKind.wrap_i64]; omega
      have e2 : IntKind.i64.wrap ((m : Int) - 1 - (q : Int)) = (J : Int) := by rw [IntKind.wrap_i64]; omega
      have hpN : p ≤ N := by have := hcn.out; omega
      have e3 : IntKind.i64.wrap ((p : Int) - 1) = ((p - 1 : Nat) : Int) := by rw [IntKind.wrap_i64]; omega
      have hstep : cntc s c (m - (q + 1)) (q + 1) = (if atc s J = c then 1 else 0) + cntc s c (m - q) q := by
        rw [show m - (q + 1) = J by omega, cntc_front, show J + 1 = m - q by omega]
      have HJ := Lib.hid (And.intro hJ hstep)
      clear hstep
      by_cases hc : atc s J = c
      · have hb := byte_is hJn hc
        have HC := Lib.hid hc
        clear hc hJ
        by_cases hp1 : p = 1
        · subst hp1
          go_wp2
          go_ret2
          have hs1 : seekB s m c N = some J := seekB_eq ⟨by have := HJ.out.1; omega, by omega, by have := HJ.out.1; rw [show m - (J + 1) = q by omega, show J + 1 = m - q by omega]; have := hcn.out; omega⟩ HC.out
          exact ⟨by rw [hs1]; rfl, rfl⟩
        · obtain ⟨p', hp'⟩ : ∃ p', p' = p - 1 := ⟨_, rfl⟩
          rw [← hp'] at e3
          have hz : ((p' : Int) == 0) = false := by rw [beq_eq_false_iff_ne]; omega
          have HP := Lib.hid hp'
          clear hp'
          go_wp2
          go_round
          case rel => exact ⟨q + 1, p', by omega, by go_num, rfl, by have := HP.out; omega, by
            have h1 := hcn.out
            have h2 := HP.out
            show _ = _
            rw [HJ.out.2, if_pos HC.out]; omega⟩
          case measure => simp [RowKit.intOf]; omega
      · have hb := byte_isnt hJn hc
        have HC := Lib.hid hc
        clear hc hJ
        go_wp2
        go_round
        case rel => exact ⟨q + 1, p, by omega, by go_num, rfl, hp, by
          have h1 := hcn.out
          show _ = _
          rw [HJ.out.2, if_neg HC.out]; omega⟩
        case measure => simp [RowKit.intOf]; omega
    · obtain rfl : q = m := by omega
      go_wp2
      go_ret2
      have hs1 : seekB s q c N = none := seekB_no (by have := hcn.out; rw [Nat.sub_self] at this; omega)
      exact ⟨by rw [hs1]; rfl, rfl⟩

end Go.Proofs.Ytaekgempoaoioaa.Ch
