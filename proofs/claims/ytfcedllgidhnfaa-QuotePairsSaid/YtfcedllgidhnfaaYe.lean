/-
  Package quoteobj: pastBlanks, beforeBlanks, columns.
-/
import Derived.Test.YtfcedllgidhnfaaYl
import Derived.Test.YtfcedllgidhnfaaOa
set_option linter.unusedVariables false
set_option linter.unusedSimpArgs false
set_option maxRecDepth 100000
namespace Go.Proofs.Ytfcedllgidhnfaa.Wo
open Go Go.RowKit Go.Proofs.Ytfcedllgidhnfaa.Vk Go.Proofs.Ytfcedllgidhnfaa.Str Go.Proofs.Ytfcedllgidhnfaa.Ln Go.Proofs.Ytfcedllgidhnfaa.Cl Go.Proofs.Ytfcedllgidhnfaa.Mv
attribute [local go_sem] Oper.semAt_some

theorem past_any (s : ByteArray) (i : Nat) (w : World) (hi : i ≤ s.size) (hs : s.size ≤ 140737488355328) : Calls Try.prog 23 #[.string s, .int .i64 i] w fun e w' => e = .returned (.int .i64 (fb s i)) ∧ w = w' := by
  go_enter Try.func23, Try.ntmps23
  go_wp2
  go_loop [1] (fun u => ∃ k : Nat, k ≤ s.size ∧ u = .int .i64 k ∧ Hid (fb s k = fb s i)) (fun u => s.size - (RowKit.intOf u).toNat)
  case atStart => exact ⟨i, hi, rfl, rfl⟩
  case round =>
    obtain ⟨k, hk, rfl, hR⟩ := hrel
    by_cases hkn : k < s.size
    · have ho := of_kl s true k hkn w
      have b0 : decide (k < s.size) = true := decide_eq_true hkn
      have b1 : (k : Int) < (s.size : Int) := by omega
      obtain ⟨M, hM⟩ : ∃ M, M = k + 1 := ⟨_, rfl⟩
      have hwM : IntKind.i64.wrap ((k : Int) + 1) = (M : Int) := by rw [IntKind.wrap_i64]; omega
      have HM := Lib.hid hM
      have HH := Lib.hid hkn
      clear hM
      by_cases hb : kl s true k = 0
      · have e1 : (kl s true k == 0) = true := by rw [beq_iff_eq]; exact hb
        have HF := Lib.hid (fb_yes hkn hb)
        generalize kl s true k = z at *
        clear hb
        go_wp2_with fail
        refine ho.mono ?_
        rintro e w' ⟨rfl, rfl⟩
        clear ho
        go_wp2
        go_round
        case rel => exact ⟨M, by have := HM.out; have := HH.out; omega, rfl, by rw [HM.out, HF.out]; exact hR.out⟩
        case measure => have := HM.out; have := HH.out; simp [RowKit.intOf]; omega
      · have e1 : (kl s true k == 0) = false := by rw [beq_eq_false_iff_ne]; exact hb
        have HF := Lib.hid (fb_no hkn hb)
        generalize kl s true k = z at *
        clear hb
        go_wp2_with fail
        refine ho.mono ?_
        rintro e w' ⟨rfl, rfl⟩
        clear ho
        go_wp2
        go_ret
        exact ⟨ret_int (by rw [← hR.out, HF.out]), rfl⟩
    · have hz : k = s.size := by omega
      have b0 : decide (k < s.size) = false := decide_eq_false hkn
      have b1 : decide ((k : Int) < (s.size : Int)) = false := decide_eq_false (by omega)
      have HF := Lib.hid (fb_end (s := s) (i := k) (by omega))
      clear hz
      go_wp2
      go_ret
      exact ⟨ret_int (by rw [← hR.out, HF.out]), rfl⟩

theorem before_any (s : ByteArray) (i : Nat) (w : World) (hi : i ≤ s.size) (hs : s.size ≤ 140737488355328) : Calls Try.prog 24 #[.string s, .int .i64 i] w fun e w' => e = .returned (.int .i64 (bb0 s i)) ∧ w = w' := by
  go_enter Try.func24, Try.ntmps24
  go_wp2
  go_loop [1] (fun u => ∃ k : Nat, k ≤ s.size ∧ u = .int .i64 k ∧ Hid (bb0 s k = bb0 s i)) (fun u => (RowKit.intOf u).toNat)
  case atStart => exact ⟨i, hi, rfl, rfl⟩
  case round =>
    obtain ⟨k, hk, rfl, hR⟩ := hrel
    by_cases hkn : 0 < k
    · obtain ⟨K, hK⟩ : ∃ K, k = K + 1 := ⟨k - 1, by omega⟩
      have hKs : K < s.size := by omega
      have ho := of_kl s true K hKs w
      have b0 : decide (0 < k) = true := decide_eq_true hkn
      have b00 : decide ((0 : Int) < (k : Int)) = true := decide_eq_true (by omega)
      have b1 : (K : Int) < (s.size : Int) := by omega
      have hwM : IntKind.i64.wrap ((k : Int) - 1) = (K : Int) := by rw [IntKind.wrap_i64]; omega
      have HM := Lib.hid hK
      clear hK hkn
      by_cases hb : kl s true K = 0
      · have e1 : (kl s true K == 0) = true := by rw [beq_iff_eq]; exact hb
        have HF := Lib.hid (bb0_yes hb)
        generalize kl s true K = z at *
        clear hb
        go_wp2_with fail
        refine ho.mono ?_
        rintro e w' ⟨rfl, rfl⟩
        clear ho
        go_wp2
        go_round
        case rel => exact ⟨K, by omega, rfl, by rw [HF.out, ← HM.out]; exact hR.out⟩
        case measure => have := HM.out; simp [RowKit.intOf]; omega
      · have e1 : (kl s true K == 0) = false := by rw [beq_eq_false_iff_ne]; exact hb
        have HF := Lib.hid (bb0_no hb)
        generalize kl s true K = z at *
        clear hb
        go_wp2_with fail
        refine ho.mono ?_
        rintro e w' ⟨rfl, rfl⟩
        clear ho
        go_wp2
        go_ret
        exact ⟨ret_int (by rw [← hR.out, HM.out, HF.out]), rfl⟩
    · have hz : k = 0 := by omega
      have b0 : decide (0 < k) = false := decide_eq_false hkn
      have b1 : decide ((0 : Int) < (k : Int)) = false := decide_eq_false (by omega)
      have HF := Lib.hid hz
      clear hz hkn
      go_wp2
      go_ret
      exact ⟨ret_int (by rw [← hR.out, HF.out]; rfl), rfl⟩

theorem results_cell_row1 {P : Program} {fn : Func} {p : Tmp} {ty : TypeId} (h : fn.results = #[.cell p ty]) (tmps : Array Value) (w : World) (g : Nat) (t : TypeId) (cs : Array Value) (fr : Nat × Nat) (d : TypeDesc)
    (hp : tmps.getD p undef = .pointer (some ⟨g, 0, none⟩)) (hg : w.heap[g]? = some (.cells cs t fr))
    (hu : P.underlying ty = some d) (hd : (match d with | .struct _ | .array _ _ => true | _ => false) = true) (hi : (P.info? ty).map (·.size) = some cs.size) :
    (results fn tmps).run P w = .ok (.agg cs) w := by
  have hp' : tmps[p]?.getD undef = .pointer (some ⟨g, 0, none⟩) := by simpa using hp
  simp [results, h, hp', asAddr, run_loadVar_row w g t ty cs fr d hg hu hd hi]
theorem columns_any (L A B : Int) (w : World) : Calls Try.prog 19 #[.int .i64 L, .int .i64 A, .int .i64 B] w fun e w' => e = .returned (rgv 0 L A L B) ∧ Below w.heap.size w w' := by
  obtain ⟨X, hX⟩ : ∃ X, X = w.alloc (.cells #[.int .i64 0, .int .i64 0, .int .i64 0, .int .i64 0, .int .i64 0] 41) := ⟨_, rfl⟩
  have hr : RgAt X w.heap.size 0 0 0 0 0 := by rw [hX]; exact RgAt.new _ _ _ _ _ _
  have hb : Below w.heap.size w X := by rw [hX]; exact (Below.refl _ w).alloc (Nat.le_refl _) _
  have r0 := hr.c0
  have r1 := hr.c1
  have r2 := hr.c2
  have r3 := hr.c3
  have r4 := hr.c4
  have z := hr.z
  have HX := Lib.hid hX
  have HE := Lib.hid (And.intro (hr.put 0 L A L B) (putR_below hb (g := w.heap.size) (by omega) 0 L A L B))
  clear hX hr hb
  go_enter Try.func19, Try.ntmps19
  go_upto_region 1 with fail
  rw [← HX.out]
  go_wp2
  refine bodyPost_ret (results_cell_row1 rfl _ _ w.heap.size _ _ _ _ rfl HE.out.1 Try.underlying41 rfl (by kernel_rfl)) rfl ⟨rfl, HE.out.2⟩
end Go.Proofs.Ytfcedllgidhnfaa.Wo
