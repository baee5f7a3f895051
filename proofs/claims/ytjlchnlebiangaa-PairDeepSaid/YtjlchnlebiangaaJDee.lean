/-
  The law PairDeep, walked.
-/
import Derived.Test.YtjlchnlebiangaaJn
import Derived.Test.YtjlchnlebiangaaJDl
set_option linter.unusedVariables false
set_option linter.unusedSimpArgs false
set_option maxRecDepth 100000
namespace Go.Proofs.Ytjlchnlebiangaa.JDee
open Go Go.RowKit Go.Proofs.Ytjlchnlebiangaa.Vk Go.Proofs.Ytjlchnlebiangaa.Str Go.Proofs.Ytjlchnlebiangaa.Ln Go.Proofs.Ytjlchnlebiangaa.Cl Go.Proofs.Ytjlchnlebiangaa.Mv Go.Proofs.Ytjlchnlebiangaa.Wd Go.Proofs.Ytjlchnlebiangaa.Pr
attribute [local go_sem] Oper.semAt_some
set_option maxHeartbeats 8000000

/-- The kinds that came in. -/
def kds (zs : List Int) : List Nat := zs.map fun z => z.toNat % 3
theorem kds_length (zs : List Int) : (kds zs).length = zs.length := by simp [kds]
theorem kds_lt (zs : List Int) : ∀ k ∈ kds zs, k < 3 := by
  intro k hk
  obtain ⟨z, _, rfl⟩ := List.mem_map.1 hk
  exact Nat.mod_lt _ (by omega)
theorem plc_nat {ls : List ByteArray} {i k : Nat} (h1 : i < ls.length) (h2 : k ≤ (lineAt ls i).size) : Plc ls (i : Int) (k : Int) := ⟨by omega, by omega, by omega, by rw [Int.toNat_natCast]; omega⟩
theorem mkS_snoc (l : List Nat) (k : Nat) : mkS (l ++ [k]) = mkS l ++ ⟨#[opB k]⟩ := by
  apply ByteArray.ext
  simp [mkS]
theorem mkT_snoc (l : List Nat) (k : Nat) : mkT (l ++ [k]) = ⟨#[shB k]⟩ ++ mkT l := by
  apply ByteArray.ext
  simp [mkT]
theorem walk (a : Option Addr) (n c' : Nat) (zs : List Int) (q : Int) (w : World) (h : SrcV w 1 (.slice a n c') n (zs.map (.int .u8))) (hz : ∀ z ∈ zs, (Lit.int .u8 z).wf = true) (hq0 : (Lit.int .u8 q).wf = true) :
    Calls Try.prog 6 #[.slice a n c', .int .u8 q] w fun e w' => e = .returned (.bool true) ∧ Below w.heap.size w w' := by
  have hk := known_any w
  have q2 : 0 ≤ q ∧ q ≤ 255 := by simpa [Lit.wf, IntKind.min, IntKind.max, IntKind.signed, IntKind.bits] using hq0
  have hz2 : ∀ z ∈ zs, 0 ≤ z ∧ z ≤ 255 := fun z hh => by simpa [Lit.wf, IntKind.min, IntKind.max, IntKind.signed, IntKind.bits] using hz z hh
  have hlen : zs.length = n := by have := h.1; simpa using this
  have hn63 : n ≤ 9223372036854775807 := by have := h.2.2.1; simpa [maxLen] using this
  go_enter Try.func6, Try.ntmps6
  go_wp2_with fail
  refine hk.mono ?_
  rintro e w1 ⟨rfl, hb1⟩
  have hs1 := SrcV.below h hb1
  have HS1 := Lib.hid hs1
  have HB1 := Lib.hid hb1
  have HZ := Lib.hid hz2
  clear hk hb1 h hs1 hz hz2
  by_cases hn0 : n = 0
  · subst hn0
    go_wp2
    go_ret
    exact ⟨rfl, HB1.out⟩
  have d0 : ((n : Int) == 0) = false := by rw [beq_eq_false_iff_ne]; omega
  by_cases hn30 : 30 < n
  · have d1 : decide (30 < n) = true := decide_eq_true hn30
    have d2 : decide ((30 : Int) < (n : Int)) = true := decide_eq_true (by omega)
    go_wp2
    go_ret
    exact ⟨rfl, HB1.out⟩
  have d1 : decide (30 < n) = false := decide_eq_false hn30
  have d2 : decide ((30 : Int) < (n : Int)) = false := decide_eq_false (by omega)
  obtain ⟨l, hl⟩ : ∃ l, l = kds zs := ⟨_, rfl⟩
  have hll : l.length = n := by rw [hl, kds_length, hlen]
  have hl3 : ∀ k ∈ l, k < 3 := by rw [hl]; exact kds_lt zs
  have HL := Lib.hid (And.intro hl (And.intro hll hl3))
  clear hl hl3
  go_wp2
  go_loop [5, 6, 7] (fun u5 u6 u7 => ∃ (j : Nat) (s t : ByteArray), j ≤ n ∧ u7 = .int .i64 j ∧ u5 = .string s ∧ u6 = .string t ∧ s.size = j ∧ t.size = j ∧ Hid (s = mkS (l.take j) ∧ t = mkT (l.take j))) (fun u5 u6 u7 => n - (RowKit.intOf u7).toNat)
  case atStart => exact ⟨0, ⟨#[]⟩, ⟨#[]⟩, Nat.zero_le _, rfl, rfl, rfl, rfl, rfl, rfl, rfl⟩
  case round =>
    obtain ⟨j, s, t, hj, rfl, rfl, rfl, hsz, htz, hQ⟩ := hrel
    by_cases hjn : j < n
    · obtain ⟨b, o, rfl, hcx, hnc, _⟩ := SrcV.at HS1.out (j := j) (u := .int .u8 (zs[j]'(by omega))) (by rw [List.getElem?_map, List.getElem?_eq_getElem (by omega)]; rfl)
      obtain ⟨z, hzz⟩ : ∃ z, z = zs[j]'(by omega) := ⟨_, rfl⟩
      have hzb : 0 ≤ z ∧ z ≤ 255 := by rw [hzz]; exact HZ.out _ (List.getElem_mem _)
      rw [← hzz] at hcx
      have htk : l.take (j + 1) = l.take j ++ [z.toNat % 3] := by
        have hjl : j < l.length := by omega
        rw [List.take_succ_eq_append_getElem hjl]
        congr 2
        have := HL.out.1
        simp only [this, kds, List.getElem_map, hzz]
      have HTK := Lib.hid htk
      have HZZ := Lib.hid hzz
      have cap1 : ¬ 9223372036854775807 < s.size + 1 := by omega
      have cap2 : ¬ 9223372036854775807 < 1 + t.size := by omega
      clear htk hzz
      obtain hκ | hκ | hκ : z.toNat % 3 = 0 ∨ z.toNat % 3 = 1 ∨ z.toNat % 3 = 2 := by omega
      · have r1 : z.tmod 3 = 0 := by rw [Int.tmod_eq_emod_of_nonneg hzb.1]; omega
        have r2 : z % 3 = 0 := by omega
        have HK := Lib.hid hκ
        clear hκ
        go_wp2
        have e1 : (⟨#[40, 91, 123]⟩ : ByteArray).extract 0 1 = ⟨#[40]⟩ := by decide +kernel
        have e2 : (⟨#[41, 93, 125]⟩ : ByteArray).extract 0 1 = ⟨#[41]⟩ := by decide +kernel
        rw [e1, e2]
        refine ⟨⟨j + 1, _, _, by omega, by go_num, rfl, rfl, ?_, ?_, ?_, ?_⟩, by simp [RowKit.intOf]; omega⟩
        · rw [ByteArray.size_append, hsz]; rfl
        · rw [ByteArray.size_append, htz, Nat.add_comm]; rfl
        · rw [HTK.out, HK.out, mkS_snoc, ← hQ.out.1]; rfl
        · rw [HTK.out, HK.out, mkT_snoc, ← hQ.out.2]; rfl
      · have r1 : z.tmod 3 = 1 := by rw [Int.tmod_eq_emod_of_nonneg hzb.1]; omega
        have r2 : z % 3 = 1 := by omega
        have HK := Lib.hid hκ
        clear hκ
        go_wp2
        have e1 : (⟨#[40, 91, 123]⟩ : ByteArray).extract 1 2 = ⟨#[91]⟩ := by decide +kernel
        have e2 : (⟨#[41, 93, 125]⟩ : ByteArray).extract 1 2 = ⟨#[93]⟩ := by decide +kernel
        rw [e1, e2]
        refine ⟨⟨j + 1, _, _, by omega, by go_num, rfl, rfl, ?_, ?_, ?_, ?_⟩, by simp [RowKit.intOf]; omega⟩
        · rw [ByteArray.size_append, hsz]; rfl
        · rw [ByteArray.size_append, htz, Nat.add_comm]; rfl
        · rw [HTK.out, HK.out, mkS_snoc, ← hQ.out.1]; rfl
        · rw [HTK.out, HK.out, mkT_snoc, ← hQ.out.2]; rfl
      · have r1 : z.tmod 3 = 2 := by rw [Int.tmod_eq_emod_of_nonneg hzb.1]; omega
        have r2 : z % 3 = 2 := by omega
        have HK := Lib.hid hκ
        clear hκ
        go_wp2
        have e1 : (⟨#[40, 91, 123]⟩ : ByteArray).extract 2 3 = ⟨#[123]⟩ := by decide +kernel
        have e2 : (⟨#[41, 93, 125]⟩ : ByteArray).extract 2 3 = ⟨#[125]⟩ := by decide +kernel
        rw [e1, e2]
        refine ⟨⟨j + 1, _, _, by omega, by go_num, rfl, rfl, ?_, ?_, ?_, ?_⟩, by simp [RowKit.intOf]; omega⟩
        · rw [ByteArray.size_append, hsz]; rfl
        · rw [ByteArray.size_append, htz, Nat.add_comm]; rfl
        · rw [HTK.out, HK.out, mkS_snoc, ← hQ.out.1]; rfl
        · rw [HTK.out, HK.out, mkT_snoc, ← hQ.out.2]; rfl
    · obtain rfl : n = j := by omega
      have hs9 : s = mkS l := by rw [hQ.out.1, List.take_of_length_le (by omega)]
      have ht9 : t = mkT l := by rw [hQ.out.2, List.take_of_length_le (by omega)]
      obtain ⟨hl, hll', hl3⟩ := HL.out
      have hn1 : 1 ≤ n := by omega
      obtain ⟨i, hi⟩ : ∃ i, i = q.toNat % n := ⟨_, rfl⟩
      have hin : i < n := by rw [hi]; exact Nat.mod_lt _ (by omega)
      have hq2 : q % (n : Int) = (i : Int) := by
        have : ∀ qn : Nat, q = qn → q % (n : Int) = ((qn % n : Nat) : Int) := fun qn h => by rw [h]; rfl
        rw [hi]; exact this q.toNat (by omega)
      have hq1 : q.tmod (n : Int) = (i : Int) := by rw [Int.tmod_eq_emod_of_nonneg q2.1]; exact hq2
      have hwq : IntKind.i64.wrap q = q := by rw [IntKind.wrap_i64]; omega
      have hwi : IntKind.i64.wrap (i : Int) = (i : Int) := by rw [IntKind.wrap_i64]; omega
      obtain ⟨n1, hn1'⟩ : ∃ n1, n1 = n - 1 := ⟨_, rfl⟩
      obtain ⟨ni, hni⟩ : ∃ ni, ni = n - 1 - i := ⟨_, rfl⟩
      have hw1 : IntKind.i64.wrap ((n : Int) - 1) = (n1 : Int) := by rw [IntKind.wrap_i64]; omega
      have hw2 : IntKind.i64.wrap ((n1 : Int) - (i : Int)) = (ni : Int) := by rw [IntKind.wrap_i64]; omega
      have hil : i < l.length := by omega
      obtain ⟨κ, hκ⟩ : ∃ κ, κ = l[i]'hil := ⟨_, rfl⟩
      have hκ3 : κ < 3 := by rw [hκ]; exact hl3 _ (List.getElem_mem _)
      have hmt : mtR (dls l) ((0 : Nat) : Int) i = ⟨2, ni, 1, true, -1, true⟩ := by
        have hp : Plc (dls l) ((0 : Nat) : Int) i := plc_nat (by simp) (by rw [dl0, mkS_size]; omega)
        rw [mtR_yes hp, deep_mtc hl3 (by omega), hll', ← hni]; rfl
      have htzz : tz (dls l) ≤ 900000 := by
        have h0 : (⟨#[120]⟩ : ByteArray).size = 1 := rfl
        have h1 : tz ([] : List ByteArray) = 0 := rfl
        rw [tz_cons, tz_cons, tz_cons, mkS_size, mkT_size, h0, h1]; omega
      have hsz3 : ∀ s ∈ dls l, s.size ≤ 140737488355328 := by
        intro s hs
        simp only [dls, List.mem_cons, List.not_mem_nil, or_false] at hs
        rcases hs with rfl | rfl | rfl
        · rw [mkS_size]; omega
        · exact Nat.le_trans (by decide : _ ≤ 1) (by omega)
        · rw [mkT_size]; omega
      obtain ⟨X, hX⟩ : ∃ X, X = w1.alloc (.cells #[.string s, .string ⟨#[120]⟩, .string t] 9) := ⟨_, rfl⟩
      have hsX : Ss X (some ⟨w1.heap.size, 0, none⟩) 3 3 (dls l) := by
        rw [hX, hs9, ht9]
        exact SrcV.lit w1 #[.string (mkS l), .string ⟨#[120]⟩, .string (mkT l)] 9 3 rfl (by simp [Value.oneCell']) (by simp [maxLen])
      have hbX : Below w1.heap.size w1 X := by rw [hX]; exact (Below.refl _ _).alloc (Nat.le_refl _) _
      have HSX := Lib.hid hsX
      have HBX := Lib.hid (below_on HB1.out hbX)
      have HSK := Lib.hid (SrcV.below HS1.out hbX)
      have c1 := fun W (hW : Below X.heap.size X W) => match_any _ 3 3 (dls l) ((0 : Nat) : Int) i W (SrcV.below HSX.out hW) hsz3 (by omega) htzz
      rw [hmt] at c1
      have henc := fun W (hW : Below X.heap.size X W) (ct : Nat) (hct : ct ≤ 100) => encl_any _ 3 3 (dls l) 1 0 (opB κ).toNat ct W (SrcV.below HSX.out hW) hsz3 (by omega) htzz (by omega)
      have hplc := fun W (hW : Below X.heap.size X W) => place5_any _ 3 3 (dls l) 2 ni W (SrcV.below HSX.out hW)
      have hpl : Plc (dls l) 2 ni := plc_nat (i := 2) (by simp) (by rw [dl2, mkT_size]; omega)
      rw [decide_eq_true hpl] at hplc
      have hby : ∀ h : i < s.size, ((s[i]'h).toNat) = (opB κ).toNat := by
        intro h
        subst hs9
        rw [bt_at, mkS_at (by omega), hκ]
      have HX := Lib.hid hX
      have HENC := Lib.hid henc
      have HPL := Lib.hid hplc
      have HBY := Lib.hid hby
      have HK := Lib.hid (And.intro hκ (And.intro hκ3 (And.intro hn1' hni)))
      have m1 := fun W => So.ne_pos 2 ni W
      have his : i < s.size := by omega
      have D := Lib.hid (Below.refl X.heap.size X)
      clear hQ hs9 ht9 hl hll' hl3 hi hn1' hni hκ hκ3 hmt hsX hbX hX henc hplc hpl hby
      go_upto_region 14 with fail
      rw [← HX.out]
      go_wp2_with fail
      refine (c1 _ D.out).mono ?_
      rintro e w3 ⟨rfl, hb⟩
      have D := Lib.hid (below_on D.out hb)
      clear hb c1
      go_upto_region 16 with fail
      obtain ⟨x3, hx3⟩ : ∃ x3, x3 = w3.alloc (.cells #[.int .i64 2, .int .i64 ni, .int .i64 1, .bool true, .int .i64 (-1)] 31) := ⟨_, rfl⟩
      have hA : Below w3.heap.size w3 x3 := by rw [hx3]; exact (Below.refl _ w3).alloc (Nat.le_refl _) _
      have hV := MvAt.new w3 2 ni 1 (-1) true
      rw [← hx3] at hV ⊢
      have gg_D := D.out.size
      have D := Lib.hid (below_on D.out hA)
      obtain ⟨b_V, hbf⟩ : ∃ b, b = w3.heap.size := ⟨_, rfl⟩
      rw [← hbf] at hV ⊢
      have g_V_D := Lib.hid (show X.heap.size ≤ b_V by rw [hbf]; exact gg_D)
      clear gg_D
      have V := Lib.hid hV
      clear hV hA hx3 hbf
      have c_V := V.out
      have V0 := c_V.c0
      have V1 := c_V.c1
      have V2 := c_V.c2
      have V3 := c_V.c3
      have V4 := c_V.c4
      clear c_V
      go_wp2
      clear m1 hwq hwi hq1 hq2 hw2
      clear V0 V1 V2 V3 V4
      go_loopw [14, 15] (fun u14 u15 wr => ∃ (J ct : Nat), J ≤ n ∧ ct ≤ J ∧ u14 = .int .i64 ct ∧ u15 = .int .i64 ((n : Int) - 1 - J) ∧ Hid (ct = (Ep l κ J).length) ∧ Hid (Below x3.heap.size x3 wr)) (fun _ u15 _ => (RowKit.intOf u15 + 1).toNat)
      case atStart => exact ⟨0, 0, Nat.zero_le _, Nat.le_refl _, rfl, by have := HK.out.2.2.1; go_num, rfl, Below.refl _ _⟩
      case round =>
        obtain ⟨J, ct, hJ, hct, rfl, rfl, hcl, E⟩ := hrel
        have D := Lib.hid (below_on D.out E.out)
        have V := Lib.hid (V.out.below E.out V.out.lt)
        by_cases hJn : J < n
        · obtain ⟨k, hk⟩ : ∃ k : Nat, (n : Int) - 1 - J = k := ⟨n - 1 - J, by omega⟩
          rw [hk]
          have hkn : k < n := by omega
          have hkl : k < l.length := by omega
          have hJk : n - 1 - J = k := by omega
          obtain ⟨ab, ao, rfl, hc1, hnc, _⟩ := SrcV.at HSK.out (j := k) (u := .int .u8 (zs[k]'(by omega))) (by rw [List.getElem?_map, List.getElem?_eq_getElem (by omega)]; rfl)
          obtain ⟨ab', ao', he', hc2, _, _⟩ := SrcV.at HSK.out (j := i) (u := .int .u8 (zs[i]'(by omega))) (by rw [List.getElem?_map, List.getElem?_eq_getElem (by omega)]; rfl)
          obtain ⟨rfl, rfl⟩ : ab' = ab ∧ ao' = ao := by
            injection he' with he'
            injection he' with h1 h2
            exact ⟨h1.symm, h2.symm⟩
          obtain ⟨zk, hzk⟩ : ∃ z, z = zs[k]'(by omega) := ⟨_, rfl⟩
          obtain ⟨zi, hzi⟩ : ∃ z, z = zs[i]'(by omega) := ⟨_, rfl⟩
          rw [← hzk] at hc1
          rw [← hzi] at hc2
          have bk : 0 ≤ zk ∧ zk ≤ 255 := by rw [hzk]; exact HZ.out _ (List.getElem_mem _)
          have bi : 0 ≤ zi ∧ zi ≤ 255 := by rw [hzi]; exact HZ.out _ (List.getElem_mem _)
          obtain ⟨kk, hkk⟩ : ∃ kk, kk = l[k]'hkl := ⟨_, rfl⟩
          have ek : kk = zk.toNat % 3 := by
            rw [hkk, hzk]
            have := HL.out.1
            simp only [this, kds, List.getElem_map]
          have ei : κ = zi.toNat % 3 := by
            rw [HK.out.1, hzi]
            have := HL.out.1
            simp only [this, kds, List.getElem_map]
          have rk1 : zk.tmod 3 = (kk : Int) := by rw [Int.tmod_eq_emod_of_nonneg bk.1]; omega
          have rk2 : zk % 3 = (kk : Int) := by omega
          have ri1 : zi.tmod 3 = (κ : Int) := by rw [Int.tmod_eq_emod_of_nonneg bi.1]; omega
          have ri2 : zi % 3 = (κ : Int) := by omega
          have wk : IntKind.u8.wrap (kk : Int) = (kk : Int) := by simp [IntKind.wrap, IntKind.bits, IntKind.signed]; omega
          have wi : IntKind.u8.wrap (κ : Int) = (κ : Int) := by simp [IntKind.wrap, IntKind.bits, IntKind.signed]; omega
          have f1 := fun z : Gr wr => z.cell (cell_later D.out hc1)
          have f2 := fun z : Gr wr => z.cell (cell_later D.out hc2)
          have hwk : IntKind.i64.wrap ((k : Int) - 1) = (k : Int) - 1 := by rw [IntKind.wrap_i64]; omega
          have hgd : l.getD (l.length - 1 - J) 3 = kk := by rw [HL.out.2.1, hJk, getD_lt hkl, hkk]
          have HG := Lib.hid hgd
          have HJK := Lib.hid (And.intro hk hJk)
          clear hc1 hc2 he' hzk hzi ek ei hkk bk bi hgd hk hJk
          by_cases hkκ : kk = κ
          rotate_left
          · have q1 : ((kk : Int) == (κ : Int)) = false := by rw [beq_eq_false_iff_ne]; omega
            have q3 : ((kk : Int) != (κ : Int)) = true := by rw [bne_iff_ne]; omega
            have hep := Ep_no (l := l) (κ := κ) (j := J) (by rw [HG.out]; exact hkκ)
            have HEP := Lib.hid (show ct = (Ep l κ (J + 1)).length by rw [hep]; exact hcl.out)
            clear hep hkκ
            go_upto_region 22 with fail
            refine wp_region_grow (by kernel_rfl) (by kernel_rfl) ?_
            repeat go_big_quiet_step (fail)
            refine wpQuiet_nil ?_
            rintro X5 ⟨⟨_, hX5⟩, rfl⟩
            clear f1 f2
            go_wp2
            go_roundw
            case rel => exact ⟨J + 1, ct, by omega, by omega, rfl, by have := HJK.out.1; go_num, HEP.out, below_on E.out hX5⟩
            case measure => simp [RowKit.intOf]
          · have q1 : ((kk : Int) == (κ : Int)) = true := by rw [beq_iff_eq]; omega
            have q3 : ((kk : Int) != (κ : Int)) = false := by rw [bne_eq_false_iff_eq]; omega
            obtain ⟨c2, hc2⟩ : ∃ c2, c2 = ct + 1 := ⟨_, rfl⟩
            have hwc : IntKind.i64.wrap ((ct : Int) + 1) = (c2 : Int) := by rw [IntKind.wrap_i64]; omega
            have hwJ : IntKind.i64.wrap ((n1 : Int) - (k : Int)) = (J : Int) := by have := HJK.out.1; have := HK.out.2.2.1; rw [IntKind.wrap_i64]; omega
            have hat := deep_at (l := l) HL.out.2.2 (κ := κ) (j := J) HK.out.2.1 (by omega) (by rw [HG.out]; exact hkκ)
            rw [HL.out.2.1, HJK.out.2, ← hcl.out, ← hc2] at hat
            have hen := fun W (hW : Below X.heap.size X W) => HENC.out W hW c2 (by omega)
            rw [hat] at hen
            have hep := Ep_yes (l := l) (κ := κ) (j := J) (by rw [HG.out]; exact hkκ)
            have HEP := Lib.hid (show c2 = (Ep l κ (J + 1)).length by rw [hep, List.length_append, ← hcl.out, hc2]; rfl)
            have HC2 := Lib.hid hc2
            have m1 := fun W => So.ne_pos 0 k W
            have m2 := fun W => So.ne_pos 2 J W
            have hbb := HBY.out his
            rw [← hbb] at hen
            dsimp only [eW, eU] at hen
            clear hep hkκ hat hc2 hbb
            go_upto_region 22 with fail
            refine wp_region_grow (by kernel_rfl) (by kernel_rfl) ?_
            repeat go_big_quiet_step (fail)
            refine wpQuiet_nil ?_
            rintro X5 ⟨⟨_, hX5⟩, rfl⟩
            clear f1 f2
            have D := Lib.hid (below_on D.out hX5)
            have V := Lib.hid (V.out.below hX5 V.out.lt)
            have E := Lib.hid (below_on E.out hX5)
            clear hX5
            go_wp2_with fail
            refine (hen _ D.out).mono ?_
            rintro e v1 ⟨rfl, hb⟩
            have D := Lib.hid (below_on D.out hb)
            have E := Lib.hid (below_on E.out hb)
            have V := Lib.hid (V.out.below hb V.out.lt)
            clear hb hen
            go_upto_region 25 with fail
            obtain ⟨y1, hy1⟩ : ∃ y1, y1 = (v1.alloc (.cells #[.int .i64 0, .int .i64 k] 24)).alloc (.cells #[.int .i64 2, .int .i64 J] 24) := ⟨_, rfl⟩
            have hA : Below v1.heap.size v1 y1 := by rw [hy1]; exact two_below _ _ _
            have hV : PosAt y1 v1.heap.size 0 k := by rw [hy1]; exact PosAt.below (PosAt.new v1 _ _) ((Below.refl _ _).alloc (Nat.le_refl _) _) (by simp)
            have hU : PosAt y1 (v1.heap.size + 1) 2 J := by rw [hy1]; exact two_new v1 _ _
            rw [← hy1]
            have lt_V := V.out.lt
            have gg_D := D.out.size
            have gg_E := E.out.size
            have D := Lib.hid (below_on D.out hA)
            have E := Lib.hid (below_on E.out hA)
            have V := Lib.hid (V.out.below hA V.out.lt)
            obtain ⟨b_B, hbf⟩ : ∃ b, b = v1.heap.size := ⟨_, rfl⟩
            rw [← hbf] at hV hU ⊢
            obtain ⟨b_C, hbg⟩ : ∃ b, b = b_B + 1 := ⟨_, rfl⟩
            rw [← hbg] at hU ⊢
            have n_V_B := Lib.hid (show b_V ≠ b_B by omega)
            have n_V_C := Lib.hid (show b_V ≠ b_C by omega)
            clear lt_V
            have n_B_C := Lib.hid (show b_B ≠ b_C by omega)
            have g_B_D := Lib.hid (show X.heap.size ≤ b_B by rw [hbf]; exact gg_D)
            have g_C_D := Lib.hid (show X.heap.size ≤ b_C by have := g_B_D.out; omega)
            clear gg_D
            have g_B_E := Lib.hid (show x3.heap.size ≤ b_B by rw [hbf]; exact gg_E)
            have g_C_E := Lib.hid (show x3.heap.size ≤ b_C by have := g_B_E.out; omega)
            clear gg_E
            have B := Lib.hid hV
            have C := Lib.hid hU
            clear hV hU hA hy1 hbf hbg
            have c_V := V.out
            have V0 := c_V.c0
            have V1 := c_V.c1
            have V2 := c_V.c2
            have V3 := c_V.c3
            have V4 := c_V.c4
            clear c_V
            have c_B := B.out
            have B0 := c_B.c0
            have B1 := c_B.c1
            clear c_B
            have c_C := C.out
            have C0 := c_C.c0
            have C1 := c_C.c1
            clear c_C
            go_wp2
            go_roundw
            case rel => exact ⟨J + 1, c2, by omega, by have := HC2.out; omega, rfl, by have := HJK.out.1; go_num, HEP.out, E.out⟩
            case measure => simp [RowKit.intOf]
        · have hJn2 : J = n := by omega
          have hu : (n : Int) - 1 - J = -1 := by omega
          rw [hu]
          obtain ⟨c2, hc2⟩ : ∃ c2, c2 = ct + 1 := ⟨_, rfl⟩
          have hwc : IntKind.i64.wrap ((ct : Int) + 1) = (c2 : Int) := by rw [IntKind.wrap_i64]; omega
          have hat := deep_end (l := l) HL.out.2.2 (κ := κ) HK.out.2.1
          rw [show (Ep l κ l.length).length = ct by rw [HL.out.2.1, ← hJn2]; exact hcl.out.symm, ← hc2] at hat
          have hen := fun W (hW : Below X.heap.size X W) => HENC.out W hW c2 (by omega)
          rw [hat] at hen
          have hbb := HBY.out his
          rw [← hbb] at hen
          dsimp only [eW, eU] at hen
          have hpl := fun W (hW : Below X.heap.size X W) => HPL.out W hW
          clear hat hc2 hbb hJn2 hu hcl hJn hJ
          go_wp2_with fail
          refine (hen _ D.out).mono ?_
          rintro e v1 ⟨rfl, hb⟩
          have D := Lib.hid (below_on D.out hb)
          have V := Lib.hid (V.out.below hb V.out.lt)
          clear hb hen
          go_upto_region 28 with fail
          obtain ⟨y1, hy1⟩ : ∃ y1, y1 = (v1.alloc (.cells #[.int .i64 0, .int .i64 0] 24)).alloc (.cells #[.int .i64 0, .int .i64 0] 24) := ⟨_, rfl⟩
          have hA : Below v1.heap.size v1 y1 := by rw [hy1]; exact two_below _ _ _
          have hV : PosAt y1 v1.heap.size 0 0 := by rw [hy1]; exact PosAt.below (PosAt.new v1 _ _) ((Below.refl _ _).alloc (Nat.le_refl _) _) (by simp)
          have hU : PosAt y1 (v1.heap.size + 1) 0 0 := by rw [hy1]; exact two_new v1 _ _
          rw [← hy1]
          have lt_V := V.out.lt
          have gg_D := D.out.size
          have D := Lib.hid (below_on D.out hA)
          have V := Lib.hid (V.out.below hA V.out.lt)
          obtain ⟨b_B, hbf⟩ : ∃ b, b = v1.heap.size := ⟨_, rfl⟩
          rw [← hbf] at hV hU ⊢
          obtain ⟨b_C, hbg⟩ : ∃ b, b = b_B + 1 := ⟨_, rfl⟩
          rw [← hbg] at hU ⊢
          have n_V_B := Lib.hid (show b_V ≠ b_B by omega)
          have n_V_C := Lib.hid (show b_V ≠ b_C by omega)
          clear lt_V
          have n_B_C := Lib.hid (show b_B ≠ b_C by omega)
          have g_B_D := Lib.hid (show X.heap.size ≤ b_B by rw [hbf]; exact gg_D)
          have g_C_D := Lib.hid (show X.heap.size ≤ b_C by have := g_B_D.out; omega)
          clear gg_D
          have B := Lib.hid hV
          have C := Lib.hid hU
          clear hV hU hA hy1 hbf hbg
          have c_V := V.out
          have V0 := c_V.c0
          have V1 := c_V.c1
          have V2 := c_V.c2
          have V3 := c_V.c3
          have V4 := c_V.c4
          clear c_V
          have c_B := B.out
          have B0 := c_B.c0
          have B1 := c_B.c1
          clear c_B
          have c_C := C.out
          have C0 := c_C.c0
          have C1 := c_C.c1
          clear c_C
          go_wp2_with fail
          refine (hpl _ D.out).mono ?_
          rintro e v2 ⟨rfl, hb⟩
          have D := Lib.hid (below_on D.out hb)
          clear hb
          go_wp2
          go_ret
          exact ⟨rfl, below_on HBX.out D.out⟩

end Go.Proofs.Ytjlchnlebiangaa.JDee
