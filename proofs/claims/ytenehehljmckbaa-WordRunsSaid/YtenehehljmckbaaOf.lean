/-
  The document's runs (Runs).
-/
import Derived.Test.YtenehehljmckbaaOr
set_option linter.unusedVariables false
set_option linter.unusedSimpArgs false
set_option maxRecDepth 100000
namespace Go.Proofs.Ytenehehljmckbaa.Wo
open Go Go.RowKit Go.Proofs.Ytenehehljmckbaa.Vk Go.Proofs.Ytenehehljmckbaa.Str Go.Proofs.Ytenehehljmckbaa.Ln Go.Proofs.Ytenehehljmckbaa.Cl Go.Proofs.Ytenehehljmckbaa.Mv
attribute [local go_sem] Oper.semAt_some

/-- A row of one's own, made since w. -/
structure OwnR (w : World) (l : List RN) (N : Nat) (b : Option Addr) (cc : Nat) (V : World) : Prop where
  len : N = l.length
  own : V.ownsRow w.heap.size ER 2 (.slice b N cc) N (fl c2 l)
  bel : Below w.heap.size w V
section
variable {w V V' : World} {l : List RN} {N : Nat} {b : Option Addr} {cc : Nat}
theorem OwnR.nil (w : World) : OwnR w [] 0 none 0 w := ⟨rfl, World.ownsRow_nil _ _ _ _, Below.refl _ _⟩
theorem OwnR.below (h : OwnR w l N b cc V) (hb : Below V.heap.size V V') : OwnR w l N b cc V' :=
  ⟨h.len, ownsRow_fr h.own (Fr.ofBelow hb (fun _ => False)) (by simp), h.bel.trans (hb.mono h.bel.size)⟩
theorem OwnR.built (h : OwnR w l N b cc V) (o : Obj) : (V.alloc o).ownsRow w.heap.size ER 2 (.slice b N cc) N (fl c2 l) :=
  (h.below ((Below.refl _ V).alloc (Nat.le_refl _) o)).own
theorem OwnR.app {x : RN} {o : Obj} {ob : Option Addr} {oc : Nat} (h : OwnR w l N b cc V) (hown : V'.ownsRow w.heap.size ER 2 (.slice ob (N + 1) oc) (N + 1) (fl c2 l ++ c2 x)) (hg : (V.alloc o).grownBy V' (Value.slice b N cc).ownBlock) : OwnR w (l ++ [x]) (N + 1) ob oc V' := by
  have h1 := h.below ((Below.refl _ V).alloc (Nat.le_refl _) o)
  refine ⟨by rw [h.len]; simp, by rw [fl_append, fl_one]; exact hown, ?_⟩
  exact h1.bel.grown hg h1.bel.size (fun k e => (h1.own.lt k e).1)
theorem OwnR.some (h : OwnR w l N b cc V) (hN : 0 < N) : ∃ g, b = some ⟨g, 0, none⟩ := by
  rcases h.own.2 with ⟨_, h0⟩ | ⟨g, cap, cur, h, _⟩
  · omega
  · simp only [Value.slice.injEq] at h; exact ⟨g, h.1⟩
theorem OwnR.rs (h : OwnR w l N b cc V) : Rs V b N cc l := Rs.ofOwn h.own
theorem fl_set (P : List RN) (A i j : Nat) : (fl c2 (P ++ [(A, i)])).set (P.length * 2 + 1) (.int .i64 j) = fl c2 (P ++ [(A, j)]) := by
  rw [fl_append, fl_append, fl_one, fl_one, List.set_append_right _ _ (by rw [fl_length c2_len]; omega), fl_length c2_len, show P.length * 2 + 1 - P.length * 2 = 1 by omega]
  rfl
theorem OwnR.set {P : List RN} {A i g : Nat} (h : OwnR w (P ++ [(A, i)]) N (Option.some ⟨g, 0, none⟩) cc V) (j : Nat) : OwnR w (P ++ [(A, j)]) N (Option.some ⟨g, 0, none⟩) cc (V.setCell ⟨g, P.length * 2 + 1, none⟩ (.int .i64 j)) := by
  have hst := h.own.stored (P.length * 2 + 1) (.int .i64 j)
  refine ⟨by rw [h.len]; simp, by rw [← fl_set P A i j]; exact hst.1, ?_⟩
  exact h.bel.grown hst.2 h.bel.size (fun k e => by have := (h.own.lt g rfl).1; injection e with e; omega)
end
theorem pr_split {s : ByteArray} {b : Bool} {i : Nat} (h : 0 < i) : ∃ (P : List RN) (A : Nat), pr s b i = P ++ [(A, i)] ∧ (kl s b i = kl s b (i - 1) → pr s b (i + 1) = P ++ [(A, i + 1)]) := by
  have hne := pr_pos (s := s) (b := b) h
  have hg := pr_rg (s := s) (b := b) i
  obtain ⟨l, hl⟩ : ∃ l, l = pr s b i := ⟨_, rfl⟩
  have hj := fun e => pr_join (s := s) (b := b) h e
  rw [← hl] at hne hg hj ⊢
  obtain ⟨P, x, hPx⟩ : ∃ P x, l = P ++ [x] := ⟨l.dropLast, l.getLast hne, (List.dropLast_concat_getLast hne).symm⟩
  subst hPx
  have h2 := hg.last P.length (by simp)
  have e : (P ++ [x])[P.length]'(by simp) = x := by simp
  rw [e] at h2
  obtain ⟨x1, x2⟩ := x
  simp only at h2
  subst h2
  exact ⟨P, x1, rfl, fun e => by rw [hj e]; simp⟩

set_option maxHeartbeats 4000000 in
theorem runs15_any (s : ByteArray) (b : Bool) (w : World) (hs : s.size ≤ 1000000) : Calls Try.prog 10 #[.string s, .bool b] w fun e w' =>
    ∃ a N cc, e = .returned (.slice a N cc) ∧ OwnR w (rs s b) N a cc w' := by
  obtain ⟨i0, hi0, hz0, hz1, hz2⟩ := info_parts infoR
  go_enter Try.func10, Try.ntmps10
  go_wp2
  go_loopw [5, 6] (fun o i wr => ∃ k N : Nat, ∃ a cc, o = .slice a N cc ∧ i = .int .i64 k ∧ Hid (k ≤ s.size ∧ OwnR w (pr s b k) N a cc wr)) (fun o i _ => s.size - (RowKit.intOf i).toNat)
  case atStart => exact ⟨0, 0, none, 0, rfl, rfl, Nat.zero_le _, OwnR.nil w⟩
  case round =>
    obtain ⟨k, N, a, cc, rfl, rfl, hR⟩ := hrel
    by_cases hkn : k < s.size
    · have hN := hR.out.2.len
      have hle := (pr_rg (s := s) (b := b) k).len
      rw [← hN] at hle
      obtain ⟨M, hM⟩ : ∃ M, M = k + 1 := ⟨_, rfl⟩
      have hwM : IntKind.i64.wrap ((k : Int) + 1) = (M : Int) := by rw [IntKind.wrap_i64]; omega
      have b0 : decide (k < s.size) = true := decide_eq_true hkn
      have b1 : (k : Int) < (s.size : Int) := by omega
      have HM := Lib.hid hM
      by_cases hc : 0 < k ∧ kl s b k = kl s b (k - 1)
      · obtain ⟨hk0, hke⟩ := hc
        obtain ⟨P, A, hP, hPj⟩ := pr_split (s := s) (b := b) hk0
        have hPj := hPj hke
        rw [← hM] at hPj
        have hO := hR.out.2
        rw [hP] at hO
        have hNP : N = P.length + 1 := by rw [hO.len]; simp
        obtain ⟨g, rfl⟩ := hO.some (by omega)
        obtain ⟨K, hK⟩ : ∃ K, K = k - 1 := ⟨_, rfl⟩
        have hwK : IntKind.i64.wrap ((k : Int) - 1) = (K : Int) := by rw [IntKind.wrap_i64]; omega
        have hwN : IntKind.i64.wrap ((N : Int) - 1) = (P.length : Int) := by rw [IntKind.wrap_i64]; omega
        rw [← hK] at hke
        have b2 : (K : Int) < (s.size : Int) := by omega
        have b3 : K < s.size := by omega
        have e0 : decide (0 < k) = true := decide_eq_true hk0
        have e00 : decide ((0 : Int) < (k : Int)) = true := decide_eq_true (by omega)
        have e1 : (kl s b k == kl s b K) = true := by rw [beq_iff_eq]; exact hke
        have b4 : (P.length : Int) < (N : Int) := by omega
        have HO := Lib.hid hO
        have HPJ := Lib.hid hPj
        have HNP := Lib.hid (And.intro hNP hle)
        have HS := Lib.hid hs
        clear hke hK hM hP hPj hO hR hN hNP hle hk0 hs
        go_upto_region 5 with fail
        refine wp_region_grow (by kernel_rfl) (by kernel_rfl) ?_
        repeat (go_big_quiet_step (first | (go_at_call 19; exact Calls.grow_of_same (of5_kl _ _ _ _ _))))
        refine wpQuiet_nil ?_
        rintro X5 ⟨⟨_, hX5⟩, rfl⟩
        have hO5 := HO.out.below hX5
        have y0 := (hO5.own.cellAt (P.length * 2 + 1) (by have := HNP.out; omega)).trans (List.getElem?_eq_getElem (by rw [fl_length c2_len, List.length_append, List.length_singleton]; omega))
        have z0 := hO5.own.frozenAt (P.length * 2 + 1)
        have H5 := Lib.hid (hO5.set M)
        generalize (fl c2 (P ++ [(A, k)]))[P.length * 2 + 1]'(by rw [fl_length c2_len, List.length_append, List.length_singleton]; omega) = Y at *
        generalize P.length = Q at *
        clear hO5 hX5 e1
        go_wp2
        go_roundw
        case rel =>
          refine ⟨M, N, _, cc, rfl, rfl, by have := HM.out; omega, ?_⟩
          rw [HPJ.out]; exact H5.out
        case measure => have := HM.out; simp [RowKit.intOf]; omega
      · have hpn : pr s b (k + 1) = pr s b k ++ [(k, k + 1)] := by rw [pr, if_neg hc]
        rw [← hM] at hpn
        have HPN := Lib.hid hpn
        have HO := Lib.hid hR.out.2
        have HS := Lib.hid (And.intro hs (And.intro hle hN))
        by_cases hk0 : 0 < k
        · obtain ⟨K, hK⟩ : ∃ K, K = k - 1 := ⟨_, rfl⟩
          have hke : kl s b k ≠ kl s b K := by rw [hK]; exact fun e => hc ⟨hk0, e⟩
          have hwK : IntKind.i64.wrap ((k : Int) - 1) = (K : Int) := by rw [IntKind.wrap_i64]; omega
          have b2 : (K : Int) < (s.size : Int) := by omega
          have b3 : K < s.size := by omega
          have e0 : decide (0 < k) = true := decide_eq_true hk0
          have e00 : decide ((0 : Int) < (k : Int)) = true := decide_eq_true (by omega)
          have e1 : (kl s b k == kl s b K) = false := by rw [beq_eq_false_iff_ne]; exact hke
          clear hke hK hM hpn hR hN hle hk0 hc hs
          go_upto_region 5 with fail
          refine wp_region_grow (by kernel_rfl) (by kernel_rfl) ?_
          repeat (go_big_quiet_step (first | (go_at_call 19; exact Calls.grow_of_same (of5_kl _ _ _ _ _))))
          refine wpQuiet_nil ?_
          rintro X5 ⟨⟨_, hX5⟩, rfl⟩
          have H5 := Lib.hid (HO.out.below hX5)
          clear hX5
          go_wp2_with (at_builtin; go_must (refine append_srcv _ rfl _ _ 23 rfl w.heap.size ER i0 (.agg #[.int .i64 0, .int .i64 0]) 2 16 underR hi0 hz0 hz1 hz2 rfl (by decide) (.slice a N cc) _ _ rfl (H5.out.built _) (.slice (some ⟨X5.heap.size, 0, none⟩) 1 1) 1 (c2 (k, M)) rfl (SrcV.run2 X5 (k, M)) (by have := HS.out; simp only [maxLen]; omega) (by have := HS.out; omega) (by have := H5.out.bel.size; simp; omega) ?_); intro ob oc V hown hg hnr; have HV := Lib.hid (H5.out.app (x := (k, M)) hown hg); clear hown hg hnr)
          go_roundw
          case rel => exact ⟨M, N + 1, ob, oc, rfl, rfl, by have := HM.out; omega, by rw [HPN.out]; exact HV.out⟩
          case measure => have := HM.out; simp [RowKit.intOf]; omega
        · have e0 : decide (0 < k) = false := decide_eq_false hk0
          have e00 : decide ((0 : Int) < (k : Int)) = false := decide_eq_false (by omega)
          clear hM hpn hR hN hle hk0 hc hs
          go_upto_region 5 with fail
          refine wp_region_grow (by kernel_rfl) (by kernel_rfl) ?_
          repeat (go_big_quiet_step (fail))
          refine wpQuiet_nil ?_
          rintro X5 ⟨⟨_, hX5⟩, rfl⟩
          have H5 := Lib.hid (HO.out.below hX5)
          clear hX5
          go_wp2_with (at_builtin; go_must (refine append_srcv _ rfl _ _ 23 rfl w.heap.size ER i0 (.agg #[.int .i64 0, .int .i64 0]) 2 16 underR hi0 hz0 hz1 hz2 rfl (by decide) (.slice a N cc) _ _ rfl (H5.out.built _) (.slice (some ⟨X5.heap.size, 0, none⟩) 1 1) 1 (c2 (k, M)) rfl (SrcV.run2 X5 (k, M)) (by have := HS.out; simp only [maxLen]; omega) (by have := HS.out; omega) (by have := H5.out.bel.size; simp; omega) ?_); intro ob oc V hown hg hnr; have HV := Lib.hid (H5.out.app (x := (k, M)) hown hg); clear hown hg hnr)
          go_roundw
          case rel => exact ⟨M, N + 1, ob, oc, rfl, rfl, by have := HM.out; omega, by rw [HPN.out]; exact HV.out⟩
          case measure => have := HM.out; simp [RowKit.intOf]; omega
    · have hk : k = s.size := by have := hR.out.1; omega
      have b0 : decide (k < s.size) = false := decide_eq_false hkn
      have HK := Lib.hid hk
      clear hk
      go_wp2
      go_ret
      refine ⟨a, N, cc, rfl, ?_⟩
      have := hR.out.2
      rw [HK.out] at this
      exact this
end Go.Proofs.Ytenehehljmckbaa.Wo
