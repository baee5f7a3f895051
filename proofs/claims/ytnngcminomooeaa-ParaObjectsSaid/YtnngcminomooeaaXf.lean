/-
  The document's blocks (Blocks); whole.
-/
import Derived.Test.YtnngcminomooeaaXb
import Derived.Test.YtnngcminomooeaaOd
set_option linter.unusedVariables false
set_option linter.unusedSimpArgs false
set_option maxRecDepth 100000
namespace Go.Proofs.Ytnngcminomooeaa.Po
open Go Go.RowKit Go.Proofs.Ytnngcminomooeaa.Vk Go.Proofs.Ytnngcminomooeaa.Str Go.Proofs.Ytnngcminomooeaa.Ln Go.Proofs.Ytnngcminomooeaa.Cl Go.Proofs.Ytnngcminomooeaa.Mv Go.Proofs.Ytnngcminomooeaa.Wo
attribute [local go_sem] Oper.semAt_some

theorem whole_any (A B : Int) (w : World) : Calls Try.prog 29 #[.int .i64 A, .int .i64 B] w fun e w' => e = .returned (.tuple #[rgv 1 A 0 B 0, .bool true]) ∧ Below w.heap.size w w' := by
  obtain ⟨X, hX⟩ : ∃ X, X = w.alloc (.cells #[.int .i64 0, .int .i64 0, .int .i64 0, .int .i64 0, .int .i64 0] 42) := ⟨_, rfl⟩
  have hr : RgAt X w.heap.size 0 0 0 0 0 := by rw [hX]; exact RgAt.new _ _ _ _ _ _
  have hb : Below w.heap.size w X := by rw [hX]; exact (Below.refl _ w).alloc (Nat.le_refl _) _
  have r0 := hr.c0
  have r1 := hr.c1
  have r2 := hr.c2
  have r3 := hr.c3
  have r4 := hr.c4
  have z := hr.z
  have HX := Lib.hid hX
  have HE := Lib.hid (And.intro (hr.put 1 A 0 B 0) (putR_below hb (g := w.heap.size) (by omega) 1 A 0 B 0))
  clear hX hr hb
  go_enter Try.func29, Try.ntmps29
  go_upto_region 1 with fail
  rw [← HX.out]
  go_wp2
  exact ret_rb (g := w.heap.size) rfl rfl rfl rfl HE.out.1 ⟨rfl, HE.out.2⟩

set_option maxHeartbeats 4000000 in
theorem blocks15_any (a : Option Addr) (n c : Nat) (ls : List ByteArray) (w : World) (h : Ss w a n c ls) (hn6 : n ≤ 1000000) : Calls Try.prog 11 #[.slice a n c] w fun e w' =>
    ∃ a N cc, e = .returned (.slice a N cc) ∧ OwnR w (bls ls) N a cc w' := by
  have hlen := h.length
  have hez : (eb ls).size = n := by rw [eb_size]; exact hlen
  have hbl : bls ls = pr (eb ls) true n := by unfold bls rs; rw [hez]
  rw [hbl]
  clear hbl hez
  obtain ⟨i0, hi0, hz0, hz1, hz2⟩ := info_parts infoR
  go_enter Try.func11, Try.ntmps11
  go_wp2
  go_loopw [3, 4] (fun o i wr => ∃ k N : Nat, ∃ a cc, o = .slice a N cc ∧ i = .int .i64 k ∧ Hid (k ≤ n ∧ OwnR w (pr (eb ls) true k) N a cc wr)) (fun o i _ => n - (RowKit.intOf i).toNat)
  case atStart => exact ⟨0, 0, none, 0, rfl, rfl, Nat.zero_le _, OwnR.nil w⟩
  case round =>
    obtain ⟨k, N, b, cc, rfl, rfl, hR⟩ := hrel
    by_cases hkn : k < n
    · have hN := hR.out.2.len
      have hle := (pr_rg (s := eb ls) (b := true) k).len
      rw [← hN] at hle
      obtain ⟨M, hM⟩ : ∃ M, M = k + 1 := ⟨_, rfl⟩
      have hwM : IntKind.i64.wrap ((k : Int) + 1) = (M : Int) := by rw [IntKind.wrap_i64]; omega
      have b0 : decide (k < n) = true := decide_eq_true hkn
      have b1 : (k : Int) < (n : Int) := by omega
      have HM := Lib.hid hM
      obtain ⟨g0, o0, rfl, hck, hnc, _⟩ := h.read k (by omega)
      rw [← lineAt_get (ls := ls) (k := k) (by omega)] at hck
      have ek := em_empty ls k
      have f0 := fun z : Gr wr => z.cell (cell_later hR.out.2.bel hck)
      by_cases hk0 : 0 < k
      · obtain ⟨K, hK⟩ : ∃ K, K = k - 1 := ⟨_, rfl⟩
        obtain ⟨g', o', he, hcK, _, _⟩ := h.read K (by omega)
        injection he with he
        injection he with e1 e2
        subst e1 e2
        rw [← lineAt_get (ls := ls) (k := K) (by omega)] at hcK
        have eK := em_empty ls K
        have f1 := fun z : Gr wr => z.cell (cell_later hR.out.2.bel hcK)
        have heq := eb_eq (ls := ls) (i := k) (j := K) (by omega) (by omega)
        have hwK : IntKind.i64.wrap ((k : Int) - 1) = (K : Int) := by rw [IntKind.wrap_i64]; omega
        have b2 : (K : Int) < (n : Int) := by omega
        have e0 : decide (0 < k) = true := decide_eq_true hk0
        have e00 : decide ((0 : Int) < (k : Int)) = true := decide_eq_true (by omega)
        by_cases hkm : em ls k = em ls K
        · have e1 : (em ls k == em ls K) = true := by rw [beq_iff_eq]; exact hkm
          obtain ⟨P, A, hP, hPj⟩ := pr_split (s := eb ls) (b := true) hk0
          have hPj := hPj (by rw [← hK]; exact heq.2 hkm)
          rw [← hM] at hPj
          have hO := hR.out.2
          rw [hP] at hO
          have hNP : N = P.length + 1 := by rw [hO.len]; simp
          obtain ⟨g, rfl⟩ := hO.some (by omega)
          have hwN : IntKind.i64.wrap ((N : Int) - 1) = (P.length : Int) := by rw [IntKind.wrap_i64]; omega
          have b4 : (P.length : Int) < (N : Int) := by omega
          have HO := Lib.hid hO
          have HPJ := Lib.hid hPj
          have HNP := Lib.hid (And.intro hNP hle)
          clear heq hkm hK hM hP hPj hO hR hN hNP hle hk0 hck hcK
          generalize em ls k = A1 at *
          generalize em ls K = B1 at *
          generalize lineAt ls k = sk at *
          generalize lineAt ls K = sf at *
          go_upto_region 5 with fail
          refine wp_region_grow (by kernel_rfl) (by kernel_rfl) ?_
          repeat (go_big_quiet_step (fail))
          refine wpQuiet_nil ?_
          rintro X5 ⟨⟨_, hX5⟩, rfl⟩
          have hO5 := HO.out.below hX5
          have y0 := (hO5.own.cellAt (P.length * 2 + 1) (by have := HNP.out; omega)).trans (List.getElem?_eq_getElem (by rw [fl_length c2_len, List.length_append, List.length_singleton]; omega))
          have z0 := hO5.own.frozenAt (P.length * 2 + 1)
          have H5 := Lib.hid (hO5.set M)
          generalize (fl c2 (P ++ [(A, k)]))[P.length * 2 + 1]'(by rw [fl_length c2_len, List.length_append, List.length_singleton]; omega) = Y at *
          generalize P.length = Q at *
          clear hO5 hX5 e1 f0 f1
          go_wp2
          go_roundw
          case rel =>
            refine ⟨M, N, _, cc, rfl, rfl, by have := HM.out; omega, ?_⟩
            rw [HPJ.out]; exact H5.out
          case measure => have := HM.out; simp [RowKit.intOf]; omega
        · have e1 : (em ls k == em ls K) = false := by rw [beq_eq_false_iff_ne]; exact hkm
          have hpn : pr (eb ls) true (k + 1) = pr (eb ls) true k ++ [(k, k + 1)] := by
            rw [pr, if_neg]
            rintro ⟨_, hh⟩
            exact hkm (heq.1 (by rw [hK]; exact hh))
          rw [← hM] at hpn
          have HPN := Lib.hid hpn
          have HO := Lib.hid hR.out.2
          have HS := Lib.hid (And.intro hn6 (And.intro hle hN))
          clear heq hkm hK hM hpn hR hN hle hk0 hck hcK
          generalize em ls k = A1 at *
          generalize em ls K = B1 at *
          generalize lineAt ls k = sk at *
          generalize lineAt ls K = sf at *
          go_upto_region 5 with fail
          refine wp_region_grow (by kernel_rfl) (by kernel_rfl) ?_
          repeat (go_big_quiet_step (fail))
          refine wpQuiet_nil ?_
          rintro X5 ⟨⟨_, hX5⟩, rfl⟩
          have H5 := Lib.hid (HO.out.below hX5)
          clear hX5 f0 f1
          go_wp2_with (at_builtin; go_must (refine append_srcv _ rfl _ _ 25 rfl w.heap.size ER i0 (.agg #[.int .i64 0, .int .i64 0]) 2 16 underR hi0 hz0 hz1 hz2 rfl (by decide) (.slice b N cc) _ _ rfl (H5.out.built _) (.slice (some ⟨X5.heap.size, 0, none⟩) 1 1) 1 (c2 (k, M)) rfl (SrcV.run2 X5 (k, M)) (by have := HS.out; simp only [maxLen]; omega) (by have := HS.out; omega) (by have := H5.out.bel.size; simp; omega) ?_); intro ob oc V hown hg hnr; have HV := Lib.hid (H5.out.app (x := (k, M)) hown hg); clear hown hg hnr)
          go_roundw
          case rel => exact ⟨M, N + 1, ob, oc, rfl, rfl, by have := HM.out; omega, by rw [HPN.out]; exact HV.out⟩
          case measure => have := HM.out; simp [RowKit.intOf]; omega
      · have hpn : pr (eb ls) true (k + 1) = pr (eb ls) true k ++ [(k, k + 1)] := by
          rw [pr, if_neg]
          exact fun hh => hk0 hh.1
        rw [← hM] at hpn
        have HPN := Lib.hid hpn
        have HO := Lib.hid hR.out.2
        have HS := Lib.hid (And.intro hn6 (And.intro hle hN))
        have e0 : decide (0 < k) = false := decide_eq_false hk0
        have e00 : decide ((0 : Int) < (k : Int)) = false := decide_eq_false (by omega)
        clear hM hpn hR hN hle hk0 hck
        go_upto_region 5 with fail
        refine wp_region_grow (by kernel_rfl) (by kernel_rfl) ?_
        repeat (go_big_quiet_step (fail))
        refine wpQuiet_nil ?_
        rintro X5 ⟨⟨_, hX5⟩, rfl⟩
        have H5 := Lib.hid (HO.out.below hX5)
        clear hX5 f0
        go_wp2_with (at_builtin; go_must (refine append_srcv _ rfl _ _ 25 rfl w.heap.size ER i0 (.agg #[.int .i64 0, .int .i64 0]) 2 16 underR hi0 hz0 hz1 hz2 rfl (by decide) (.slice b N cc) _ _ rfl (H5.out.built _) (.slice (some ⟨X5.heap.size, 0, none⟩) 1 1) 1 (c2 (k, M)) rfl (SrcV.run2 X5 (k, M)) (by have := HS.out; simp only [maxLen]; omega) (by have := HS.out; omega) (by have := H5.out.bel.size; simp; omega) ?_); intro ob oc V hown hg hnr; have HV := Lib.hid (H5.out.app (x := (k, M)) hown hg); clear hown hg hnr)
        go_roundw
        case rel => exact ⟨M, N + 1, ob, oc, rfl, rfl, by have := HM.out; omega, by rw [HPN.out]; exact HV.out⟩
        case measure => have := HM.out; simp [RowKit.intOf]; omega
    · have hk : k = n := by have := hR.out.1; omega
      have b0 : decide (k < n) = false := decide_eq_false hkn
      have HK := Lib.hid hk
      clear hk
      go_wp2
      go_ret
      refine ⟨b, N, cc, rfl, ?_⟩
      have := hR.out.2
      rw [HK.out] at this
      exact this
end Go.Proofs.Ytnngcminomooeaa.Po
