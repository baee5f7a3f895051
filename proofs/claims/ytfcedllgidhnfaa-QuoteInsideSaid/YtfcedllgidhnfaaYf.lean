/-
  The document's pairs (Pairs).
-/
import Derived.Test.YtfcedllgidhnfaaYb
import Derived.Test.YtfcedllgidhnfaaOf
set_option linter.unusedVariables false
set_option linter.unusedSimpArgs false
set_option maxRecDepth 100000
namespace Go.Proofs.Ytfcedllgidhnfaa.Wo
open Go Go.RowKit Go.Proofs.Ytfcedllgidhnfaa.Vk Go.Proofs.Ytfcedllgidhnfaa.Str Go.Proofs.Ytfcedllgidhnfaa.Ln Go.Proofs.Ytfcedllgidhnfaa.Cl Go.Proofs.Ytfcedllgidhnfaa.Mv
attribute [local go_sem] Oper.semAt_some

/-- What waits, as the document keeps it. -/
def wv : Option Nat → Int
  | none => -1
  | some f => f
set_option maxHeartbeats 4000000 in
theorem pairs15_any (s : ByteArray) (q : Int) (w : World) (hs : s.size ≤ 1000000) : Calls Try.prog 9 #[.string s, .int .u8 q] w fun e w' =>
    ∃ a N cc, e = .returned (.slice a N cc) ∧ OwnR w (qs s q) N a cc w' := by
  obtain ⟨i0, hi0, hz0, hz1, hz2⟩ := info_parts infoR
  go_enter Try.func9, Try.ntmps9
  go_wp2
  go_loopw [5, 6, 7] (fun o f i wr => ∃ k N : Nat, ∃ a cc, o = .slice a N cc ∧ f = .int .i64 (wv (pq s q k).2) ∧ i = .int .i64 k ∧ Hid (k ≤ s.size ∧ OwnR w (pq s q k).1 N a cc wr)) (fun o f i _ => s.size - (RowKit.intOf i).toNat)
  case atStart => exact ⟨0, 0, none, 0, rfl, rfl, rfl, Nat.zero_le _, OwnR.nil w⟩
  case round =>
    obtain ⟨k, N, a, cc, rfl, rfl, rfl, hR⟩ := hrel
    by_cases hkn : k < s.size
    · have hN := hR.out.2.len
      have hle := (pq_all (s := s) (q := q) k).2.2
      rw [← hN] at hle
      obtain ⟨M, hM⟩ : ∃ M, M = k + 1 := ⟨_, rfl⟩
      have hwM : IntKind.i64.wrap ((k : Int) + 1) = (M : Int) := by rw [IntKind.wrap_i64]; omega
      have b0 : decide (k < s.size) = true := decide_eq_true hkn
      have b1 : (k : Int) < (s.size : Int) := by omega
      have HM := Lib.hid hM
      have HO := Lib.hid hR.out.2
      have HS := Lib.hid (And.intro hs (And.intro hle (And.intro hN hkn)))
      clear hM hR hN hle hs
      by_cases hb : bt s k = q
      · have e1 := byte_is hkn hb
        cases hw : (pq s q k).2 with
        | none =>
          have HP := Lib.hid (pq_open hb hw)
          clear hb hw
          simp only [wv]
          go_wp2
          go_roundw
          case rel =>
            refine ⟨M, N, a, cc, rfl, ?_, rfl, by have := HM.out; have := HS.out; omega, ?_⟩
            · rw [HM.out, HP.out]
            · rw [HM.out, HP.out]; exact HO.out
          case measure => have := HM.out; have := HS.out; simp [RowKit.intOf]; omega
        | some f =>
          have HP := Lib.hid (pq_close hb hw)
          have e2 : decide ((f : Int) < 0) = false := decide_eq_false (by omega)
          have H5 := HO
          clear hb hw
          simp only [wv]
          go_wp2_with (at_builtin; go_must (refine append_srcv _ rfl _ _ 23 rfl w.heap.size ER i0 (.agg #[.int .i64 0, .int .i64 0]) 2 16 underR hi0 hz0 hz1 hz2 rfl (by decide) (.slice a N cc) _ _ rfl (H5.out.built _) (.slice (some ⟨wr.heap.size, 0, none⟩) 1 1) 1 (c2 (f, k)) rfl (SrcV.run2 wr (f, k)) (by have := HS.out; simp only [maxLen]; omega) (by have := HS.out; omega) (by have := H5.out.bel.size; simp; omega) ?_); intro ob oc V hown hg hnr; have HV := Lib.hid (H5.out.app (x := (f, k)) hown hg); clear hown hg hnr)
          go_roundw
          case rel =>
            refine ⟨M, N + 1, ob, oc, rfl, ?_, rfl, by have := HM.out; have := HS.out; omega, ?_⟩
            · rw [HM.out, HP.out]
            · rw [HM.out, HP.out]; exact HV.out
          case measure => have := HM.out; have := HS.out; simp [RowKit.intOf]; omega
      · have e1 := byte_isnt hkn hb
        have HP := Lib.hid (pq_no hb)
        clear hb
        generalize hz : wv (pq s q k).2 = z
        have HZ := Lib.hid hz
        clear hz
        go_wp2
        go_roundw
        case rel =>
          refine ⟨M, N, a, cc, rfl, ?_, rfl, by have := HM.out; have := HS.out; omega, ?_⟩
          · rw [HM.out, HP.out, HZ.out]
          · rw [HM.out, HP.out]; exact HO.out
        case measure => have := HM.out; have := HS.out; simp [RowKit.intOf]; omega
    · have hk : k = s.size := by have := hR.out.1; omega
      have b0 : decide (k < s.size) = false := decide_eq_false hkn
      have HK := Lib.hid hk
      clear hk
      go_wp2
      go_ret
      refine ⟨a, N, cc, rfl, ?_⟩
      have := hR.out.2
      rw [HK.out] at this
      exact this
end Go.Proofs.Ytfcedllgidhnfaa.Wo
