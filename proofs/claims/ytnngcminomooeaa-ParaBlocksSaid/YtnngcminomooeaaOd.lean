/-
  The document's runs (Runs), the one that has a column (find); char, in.
-/
import Derived.Test.YtnngcminomooeaaOr
set_option linter.unusedVariables false
set_option linter.unusedSimpArgs false
set_option maxRecDepth 100000
namespace Go.Proofs.Ytnngcminomooeaa.Wo
open Go Go.RowKit Go.Proofs.Ytnngcminomooeaa.Vk Go.Proofs.Ytnngcminomooeaa.Str Go.Proofs.Ytnngcminomooeaa.Ln Go.Proofs.Ytnngcminomooeaa.Cl Go.Proofs.Ytnngcminomooeaa.Mv
attribute [local go_sem] Oper.semAt_some

theorem char_any (l c m d : Int) (w : World) : Calls Try.prog 34 #[.agg #[.int .i64 l, .int .i64 c], .agg #[.int .i64 m, .int .i64 d]] w fun e w' => e = .returned (.tuple #[rgv 0 l c m d, .bool true]) ∧ Below w.heap.size w w' := by
  obtain ⟨X, hX⟩ : ∃ X, X = ((w.alloc (.cells #[.int .i64 l, .int .i64 c] 36)).alloc (.cells #[.int .i64 m, .int .i64 d] 36)).alloc (.cells #[.int .i64 0, .int .i64 0, .int .i64 0, .int .i64 0, .int .i64 0] 42) := ⟨_, rfl⟩
  obtain ⟨h1, h2, h3, h4, h5⟩ := three_rows w (.cells #[.int .i64 l, .int .i64 c] 36) (.cells #[.int .i64 m, .int .i64 d] 36) (.cells #[.int .i64 0, .int .i64 0, .int .i64 0, .int .i64 0, .int .i64 0] 42)
  rw [← hX] at h1 h2 h3 h4 h5
  have hp : PosAt X w.heap.size l c := h2
  have hq : PosAt X (w.heap.size + 1) m d := h3
  have hr : RgAt X (w.heap.size + 2) 0 0 0 0 0 := h4
  have p0 := hp.c0
  have p1 := hp.c1
  have q0 := hq.c0
  have q1 := hq.c1
  have r0 := hr.c0
  have r1 := hr.c1
  have r2 := hr.c2
  have r3 := hr.c3
  have r4 := hr.c4
  have z := hr.z
  have HX := Lib.hid hX
  have HE := Lib.hid (And.intro (hr.put 0 l c m d) (putR_below h5 (g := w.heap.size + 2) (by omega) 0 l c m d))
  clear hX h1 h2 h3 h4 h5 hp hq hr
  go_enter Try.func34, Try.ntmps34
  go_upto_region 1 with fail
  rw [← HX.out]
  go_wp2
  exact ret_rb (g := w.heap.size + 2) rfl rfl rfl rfl HE.out.1 ⟨rfl, HE.out.2⟩

set_option maxHeartbeats 2000000 in
theorem find_any (a : Option Addr) (n c : Nat) (l : List RN) (col k : Nat) (w : World) (h : Rs w a n c l) (hk : At l col k) (hkl : n ≤ 140737488355328) :
    Calls Try.prog 28 #[.slice a n c, .int .i64 col] w fun e w' => e = .returned (.int .i64 k) ∧ w = w' := by
  have hlen := h.length
  have hkn := hk.lt
  go_enter Try.func28, Try.ntmps28
  go_wp2
  go_loop [5] (fun i => ∃ j : Nat, j ≤ k ∧ i = .int .i64 j) (fun i => n - (RowKit.intOf i).toNat)
  case atStart => exact ⟨0, Nat.zero_le _, rfl⟩
  case round =>
    obtain ⟨j, hj, rfl⟩ := hrel
    obtain ⟨g, o, rfl, x0, x1, hnc⟩ := h.read j (by omega)
    have b0 : decide (j < n) = true := decide_eq_true (by omega)
    have b1 : (j : Int) < (n : Int) := by omega
    by_cases hjk : j = k
    · subst hjk
      have e0 : decide ((l[j]'(by omega)).1 ≤ col) = true := decide_eq_true hk.fst
      have e1 : decide (col < (l[j]'(by omega)).2) = true := decide_eq_true hk.snd
      clear hk h
      generalize (l[j]'(by omega)).1 = X at *
      generalize (l[j]'(by omega)).2 = Y at *
      go_wp2
      go_ret
      exact ⟨rfl, rfl⟩
    · have e1 : decide (col < (l[j]'(by omega)).2) = false := decide_eq_false (by have := hk.old j (by omega); omega)
      obtain ⟨M, hM⟩ : ∃ M, M = j + 1 := ⟨_, rfl⟩
      have hwM : IntKind.i64.wrap ((j : Int) + 1) = (M : Int) := by rw [IntKind.wrap_i64]; omega
      have HM := Lib.hid hM
      clear hk h hM
      generalize (l[j]'(by omega)).1 = X at *
      generalize (l[j]'(by omega)).2 = Y at *
      by_cases he : X ≤ col
      · have e0 : decide (X ≤ col) = true := decide_eq_true he
        go_wp2
        go_round
        case rel => exact ⟨M, by have := HM.out; omega, rfl⟩
        case measure => have := HM.out; simp [RowKit.intOf]; omega
      · have e0 : decide (X ≤ col) = false := decide_eq_false he
        go_wp2
        go_round
        case rel => exact ⟨M, by have := HM.out; omega, rfl⟩
        case measure => have := HM.out; simp [RowKit.intOf]; omega
end Go.Proofs.Ytnngcminomooeaa.Wo
