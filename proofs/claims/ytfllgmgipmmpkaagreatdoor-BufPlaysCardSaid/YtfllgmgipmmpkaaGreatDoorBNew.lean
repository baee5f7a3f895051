/-
  The law BufNew, walked.
-/
import Derived.Test.YtfllgmgipmmpkaaGreatDoorBEmp
import Derived.Deep.CutBlock
import Derived.Deep.CutRange
set_option linter.unusedVariables false
set_option linter.unusedSimpArgs false
set_option maxRecDepth 100000
namespace Go.Proofs.YtfllgmgipmmpkaaGreatDoor.BNew
open Go Go.RowKit Go.Proofs.YtfllgmgipmmpkaaGreatDoor.Vk Go.Proofs.YtfllgmgipmmpkaaGreatDoor.Tm Go.Proofs.YtfllgmgipmmpkaaGreatDoor.Tf Go.Proofs.YtfllgmgipmmpkaaGreatDoor.Bf Go.Proofs.YtfllgmgipmmpkaaGreatDoor.Lm Go.Shelf Go.Proofs.YtfllgmgipmmpkaaGreatDoor.BLim
attribute [local go_sem] Oper.semAt_some

/-- What New may answer. -/
def NewOut (ls : List ByteArray) (base : Nat) (w' : World) (x : Value) (ex : Int) : Prop :=
  (¬ NoLf ls ∧ x = .pointer none ∧ ex = 20) ∨ (NoLf ls ∧ 4096 < (jn ls).length ∧ x = .pointer none ∧ ex = 21) ∨
    (NoLf ls ∧ (jn ls).length ≤ 4096 ∧ ∃ b F np, x = .pointer (some ⟨b, 0, none⟩) ∧ ex = 0 ∧ Buf w' base b F (lst ls) 0 np (jn (lst ls)).length)
theorem new_out (a : Option Addr) (n c : Nat) (ls : List ByteArray) (w : World) (h : Ss w a n c ls) (hn : n ≤ 100000) (hs : (jn ls).length ≤ 4000000000000000000) :
    Calls Tryz.prog 10 #[.slice a n c] w fun e w' => ∃ x ex, e = .returned (.tuple #[x, .int .i64 ex]) ∧ NewOut ls w.heap.size w' x ex ∧ Below w.heap.size w w' := by
  by_cases h1 : NoLf ls
  · by_cases h2 : 4096 < (jn ls).length
    · exact (new_full a n c ls w h hn h1 hs h2).mono fun e w' ⟨he, hb⟩ => ⟨_, _, he, .inr (.inl ⟨h1, h2, rfl, rfl⟩), hb⟩
    · refine (new_ok a n c ls w h hn h1 (by unfold lst; split; simp [jn]; omega)).mono ?_
      rintro e w' ⟨b, F, np, he, hb, hbl⟩
      exact ⟨_, _, he, .inr (.inr ⟨h1, by omega, b, F, np, rfl, rfl, hb⟩), hbl⟩
  · exact (new_broken a n c ls w h hn h1).mono fun e w' ⟨he, hb⟩ => ⟨_, _, he, .inl ⟨h1, rfl, rfl⟩, hb⟩

theorem trim_hit (tx : ByteArray) (m : Nat) (hm : tx.size = m + 1) (h : tx[m]'(by omega) = 10) : (tx.extract 0 m).data.toList = Lib.trimSuffix tx.data.toList [10] := by
  have hl : tx.data.toList.length = m + 1 := by rw [Str.size_str]; exact hm
  have hlast : tx.data.toList = tx.data.toList.take m ++ [10] := by
    have h1 : tx.data.toList.take (m + 1) = tx.data.toList := List.take_of_length_le (by omega)
    have h2 : tx.data.toList[m]'(by omega) = 10 := h
    rw [← h2]
    conv => lhs; rw [← h1, List.take_succ_eq_append_getElem (by omega)]
  have hs : Lib.hasSuffix tx.data.toList [10] = true := by
    unfold Lib.hasSuffix
    refine List.isSuffixOf_iff_suffix.2 ?_
    rw [hlast]; exact List.suffix_append _ _
  unfold Lib.trimSuffix
  rw [if_pos hs, Str.ext_upto, hl]; rfl
theorem trim_miss (tx : ByteArray) (h : tx.size = 0 ∨ ∃ m, ∃ hm : tx.size = m + 1, tx[m]'(by omega) ≠ 10) : Lib.trimSuffix tx.data.toList [10] = tx.data.toList := by
  unfold Lib.trimSuffix
  rw [if_neg]
  unfold Lib.hasSuffix
  intro hs
  obtain ⟨p, hp⟩ := List.isSuffixOf_iff_suffix.1 hs
  have hl : tx.data.toList.length = p.length + 1 := by rw [← hp]; simp
  rw [Str.size_str] at hl
  rcases h with h | ⟨m, hm, h⟩
  · omega
  · obtain rfl : m = p.length := by omega
    refine h ?_
    show tx.data.toList[p.length]'(by rw [Str.size_str]; omega) = 10
    simp only [← hp]
    simp

set_option maxHeartbeats 2000000 in
theorem walk (a : Option Addr) (n c : Nat) (ls : List ByteArray) (tx : ByteArray) (n_ : Int) (w : World) (hs : Ss w a n c ls) (hsb : ∀ s ∈ ls, s.size ≤ 140737488355328) (hts : tx.size ≤ 140737488355328) (hnn : (Lit.int .u16 n_).wf = true) (hm : MaxOk w) :
    Calls Tryz.prog 4 #[.slice a n c, .string tx, .int .u16 n_] w fun e w' => e = .returned (.bool true) ∧ Below w.heap.size w w' := by
  have hn63 : n ≤ 9223372036854775807 := by have := hs.2.2.1; unfold maxLen at this; omega
  have hlen := hs.length
  have hkn := known_any w hm
  have hn2 : 0 ≤ n_ ∧ n_ ≤ 65535 := by simpa [Lit.wf, IntKind.min, IntKind.max, IntKind.signed, IntKind.bits] using hnn
  by_cases h40 : 40 < n
  · clear hs
    go_enter Tryz.func4, Tryz.ntmps4
    go_wp2_with fail
    refine hkn.mono ?_
    rintro e w1 ⟨rfl, hb1⟩
    clear hkn
    go_wp2
    go_ret
    exact ⟨rfl, hb1⟩
  have hjb := jn_bound ls hsb
  have hsz : ∀ w1, Below w.heap.size w w1 → Calls Tryz.prog 11 #[.slice a n c] w1 _ := fun w1 hb => size5_any a n c ls w1 (SrcV.below hs hb) (by omega) (by omega)
  by_cases h6 : 6000 < (jn ls).length ∨ 300 < tx.size
  · clear hs
    go_enter Tryz.func4, Tryz.ntmps4
    go_wp2_with fail
    refine hkn.mono ?_
    rintro e w1 ⟨rfl, hb1⟩
    have hsz1 := hsz w1 hb1
    have HB1 := Lib.hid hb1
    clear hkn hb1
    go_wp2_with fail
    refine hsz1.mono ?_
    rintro e w' ⟨rfl, rfl⟩
    clear hsz1 hsz
    by_cases h6a : 6000 < (jn ls).length
    · clear h6
      go_wp2
      go_ret
      exact ⟨rfl, HB1.out⟩
    · have h3 : 300 < tx.size := by omega
      clear h6
      go_wp2
      go_ret
      exact ⟨rfl, HB1.out⟩
  have h6a : ¬ 6000 < (jn ls).length := by omega
  have h3 : ¬ 300 < tx.size := by omega
  have hll := lst_length ls
  obtain ⟨k, hk, hk2⟩ : ∃ k : Nat, n_.tmod 5 = (k : Int) ∧ k < 5 := by
    have h1 := Int.tmod_lt_of_pos n_ (b := 5) (by omega)
    have h2 := Int.tmod_nonneg (5 : Int) hn2.1
    exact ⟨(n_.tmod 5).toNat, by omega, by omega⟩
  have hw_1 : IntKind.i64.wrap (n_.tmod 5) = (k : Int) := by rw [hk, IntKind.wrap_i64]; omega
  have hw_2 : IntKind.i64.wrap (4093 + (k : Int)) = ((4093 + k : Nat) : Int) := by rw [IntKind.wrap_i64]; omega
  have HS := Lib.hid hs
  have hsz1 : ∀ w1, Below w.heap.size w w1 → _ := fun w1 hb => hsz w1 hb
  have HSZ := Lib.hid hsz1
  clear h6 hs hsz hsz1
  go_enter Tryz.func4, Tryz.ntmps4
  go_wp2_with fail
  refine hkn.mono ?_
  rintro e w1 ⟨rfl, hb1⟩
  have hsz1 := HSZ.out w1 hb1
  have HB1 := Lib.hid hb1
  have hz1 := hb1.size
  clear hkn hb1
  go_wp2_with fail
  refine hsz1.mono ?_
  rintro e w' ⟨rfl, rfl⟩
  clear hsz1
  have hnew := new_out a n c ls w1 (SrcV.below HS.out HB1.out) (by omega) (by omega)
  go_wp2_with fail
  refine hnew.mono ?_
  rintro e w2 ⟨x, ex, rfl, hout, hb2⟩
  have hb02 : Below w.heap.size w w2 := HB1.out.trans (hb2.mono hz1)
  have HO := Lib.hid hout
  have HB2 := Lib.hid hb02
  have hz2 := hb02.size
  clear hnew hout hb2 hb02
  go_upto_block 0 with fail
  go_cut [7, 8, 9] from 14 to 69 (fun _ _ _ wx => Hid (Below w.heap.size w wx))
  case first =>
    have hbk := broken_any a n c ls w2 (SrcV.below HS.out HB2.out) (by omega) hsb
    have hsz2 := HSZ.out w2 HB2.out
    go_wp2_with fail
    refine hbk.mono ?_
    rintro e w' ⟨q, rfl, rfl, hq1, hq2⟩
    clear hbk
    cases q
    · have hcl := hq2 rfl
      clear hq1 hq2
      go_wp2_with fail
      refine hsz2.mono ?_
      rintro e w' ⟨rfl, rfl⟩
      clear hsz2
      by_cases h4 : 4096 < (jn ls).length
      · obtain ⟨rfl, rfl⟩ : x = .pointer none ∧ ex = 21 := by
          rcases HO.out with ⟨h, _, _⟩ | ⟨_, _, h1, h2⟩ | ⟨_, h, _⟩
          · exact absurd hcl h
          · exact ⟨h1, h2⟩
          · omega
        have d4 : decide (4096 < ((jn ls).length : Int)) = true := decide_eq_true (by omega)
        clear HO
        go_wp2
        go_meet
        case rel => exact HB2.out
      · have hbf : ∃ b F np, x = .pointer (some ⟨b, 0, none⟩) ∧ ex = 0 ∧ Buf w2 w1.heap.size b F (lst ls) 0 np (jn (lst ls)).length := by
          rcases HO.out with ⟨h, _, _⟩ | ⟨_, h, _⟩ | ⟨_, _, h⟩
          · exact absurd hcl h
          · omega
          · exact h
        obtain ⟨b, F, np, rfl, rfl, hbuf⟩ := hbf
        have d4 : decide (4096 < ((jn ls).length : Int)) = false := decide_eq_false (by omega)
        have hjl : (jn (lst ls)).length ≤ 4096 := hbuf.facts.1
        clear HO
        by_cases hn0 : n = 0
        · subst hn0
          obtain rfl : ls = [] := List.length_eq_zero_iff.1 hlen
          rw [show lst [] = [⟨#[]⟩] from rfl] at hbuf hjl
          have hx2 : Ss (w2.alloc (.cells #[.string ⟨#[]⟩] ES)) (some ⟨w2.heap.size, 0, none⟩) 1 1 [⟨#[]⟩] := ss_lit w2 [⟨#[]⟩] ES 1 rfl (by omega)
          have hbW : Below w2.heap.size w2 (w2.alloc (.cells #[.string ⟨#[]⟩] ES)) := (Below.refl _ w2).alloc (Nat.le_refl _) _
          have hbwW := HB2.out.trans (hbW.mono hz2)
          have hwh := whole_any (hbuf.below hbW) (hm.below hbwW) (by omega) _ 1 1 hx2
          have HBW := Lib.hid hbwW
          clear hbuf hx2 hbW hbwW
          go_wp2_with fail
          refine hwh.mono ?_
          rintro e w3 ⟨rfl, hb3⟩
          have HB3 := Lib.hid (HBW.out.trans (hb3.mono HBW.out.size))
          clear hwh hb3
          go_wp2
          go_meet
          case rel => exact HB3.out
        · have hne : ls ≠ [] := by rintro rfl; simp at hlen; omega
          rw [lst_id hne] at hbuf hjl
          have hnz : ((n : Int) == 0) = false := by rw [beq_eq_false_iff_ne]; omega
          have hwh := whole_any hbuf (hm.below HB2.out) (by omega) _ n c (SrcV.below HS.out HB2.out)
          clear hbuf
          go_wp2_with fail
          refine hwh.mono ?_
          rintro e w3 ⟨rfl, hb3⟩
          have HB3 := Lib.hid (HB2.out.trans (hb3.mono hz2))
          clear hwh hb3
          go_wp2
          go_meet
          case rel => exact HB3.out
    · have hcl := hq1 rfl
      clear hq1 hq2 hsz2
      obtain ⟨rfl, rfl⟩ : x = .pointer none ∧ ex = 20 := by
        rcases HO.out with ⟨_, h1, h2⟩ | ⟨h, _⟩ | ⟨h, _⟩
        · exact ⟨h1, h2⟩
        · exact absurd h hcl
        · exact absurd h hcl
      clear HO
      go_wp2
      go_meet
      case rel => exact HB2.out
  case rest =>
    obtain ⟨i0, hi0, hz0, hz1', hz2'⟩ := info_parts Tb.infoU
    have HBC := hcut
    have hzc := hcut.out.size
    obtain ⟨L, hL⟩ : ∃ L : Nat, L = 4093 + k := ⟨_, rfl⟩
    rw [← hL] at hw_2
    have HL := Lib.hid hL
    have hL6 : L ≤ 10000 := by omega
    have hmk := run_make (P := Tryz.prog) wc 37 Tb.TU i0 (.int .u8 0) Tb.underB hi0 hz0 .i64 .i64 L L (by omega) (by omega) (by rw [hz2']; omega) (by omega)
    rw [hz1'] at hmk
    simp only [Int.toNat_natCast, Nat.mul_one] at hmk
    have hcv := run_zs L wc (by omega)
    obtain ⟨W2, hW2⟩ : ∃ W2, W2 = wc.alloc (.cells (madeCells #[Value.int .u8 0] L) 5) := ⟨_, rfl⟩
    have hbW2 : Below w.heap.size w W2 := by rw [hW2]; exact hcut.out.alloc hzc _
    have hmk2 : (Instr.makeSlice 37 (.int .i64 L) (.int .i64 L)).run Tryz.prog wc = .ok (.slice (some ⟨wc.heap.size, 0, none⟩) L L) W2 := by rw [hW2]; exact hmk
    rw [← hW2] at hcv
    have hbW3 : Below w.heap.size w (W2.alloc (.cells #[.string (zs L)] ES)) := hbW2.alloc hbW2.size _
    have hnew := new_out _ 1 1 [zs L] _ (ss_lit W2 [zs L] ES 1 rfl (by omega)) (by omega) (by rw [jn_len_one, zs_size]; omega)
    have HBW3 := Lib.hid hbW3
    clear hmk hbW2 hbW3 hW2 hcut hL
    go_wp2_with fail
    refine hnew.mono ?_
    rintro e w4 ⟨y, ey, rfl, hout, hb4⟩
    have hb04 := HBW3.out.trans (hb4.mono HBW3.out.size)
    have HB4 := Lib.hid hb04
    clear hnew hb4
    have hfact : (L + 1 ≤ 4096 ∧ ey = 0 ∧ ∃ b, y = .pointer (some ⟨b, 0, none⟩)) ∨ (¬ L + 1 ≤ 4096 ∧ ey = 21 ∧ y = .pointer none) := by
      rcases hout with ⟨h, _⟩ | ⟨_, h, h1, h2⟩ | ⟨_, h, b, F, np, h1, h2, _⟩
      · exact absurd (zs_clean L) h
      · rw [jn_len_one, zs_size] at h; exact .inr ⟨by omega, h2, h1⟩
      · rw [jn_len_one, zs_size] at h; exact .inl ⟨by omega, h2, b, h1⟩
    obtain ⟨lt, hltc, hlt0, hltj⟩ := lines_of (Lib.trimSuffix tx.data.toList [10])
    have hsp := split_any tx lt hltc hlt0 hltj w4 (hm.below hb04) (by omega)
    have hw_3 : IntKind.i64.wrap ((L : Int) + 1) = (L : Int) + 1 := by rw [IntKind.wrap_i64]; omega
    have HLT := Lib.hid (And.intro hltc (And.intro hlt0 hltj))
    have HF := Lib.hid hfact
    have hz4 := hb04.size
    clear hout hfact hltc hlt0 hltj hb04
    rcases HF.out with ⟨h1, rfl, b4, rfl⟩ | ⟨h1, rfl, rfl⟩
    · have d5 : decide ((L : Int) + 1 ≤ 4096) = true := decide_eq_true (by omega)
      clear HF
      by_cases ht0 : tx.size = 0
      · have hte := Str.empty_of_zero ht0
        have HTR : Hid (tx.data.toList = Lib.trimSuffix tx.data.toList [10]) := (trim_miss tx (.inl ht0)).symm
        go_wp2_with fail
        refine hsp.mono ?_
        rintro e w5 ⟨rfl, hw5⟩
        clear hsp
        have hb5 : Below w.heap.size w w5 := by rw [hw5]; exact HB4.out.alloc hz4 _
        have hx5 : Ss w5 (some ⟨w4.heap.size, 0, none⟩) lt.length lt.length lt := by rw [hw5]; exact ss_lit w4 lt ES _ rfl (by have := jn_len_ge lt; rw [HLT.out.2.2] at this; have h2 := Lib.trimSuffix_le tx.data.toList [10]; rw [Str.size_str] at h2; simp at this; omega)
        have hls := lawSplit tx w5 (by omega)
        have HX5 := Lib.hid hx5
        have HB5 := Lib.hid hb5
        clear hw5 hx5 hb5
        go_wp2_with fail
        refine hls.mono ?_
        rintro e w6 ⟨lb, lk, lc, ls6, rfl, hs6, hc6, h06, hj6, hb6⟩
        have hel : ls6 = lt := jn_inj hc6 HLT.out.1 (by rw [hj6, HLT.out.2.2]; exact congrArg (· ++ [10]) HTR.out)
        subst hel
        have hb06 := HB5.out.trans (hb6.mono HB5.out.size)
        have hlk := hs6.length
        subst hlk
        have hsm := same_any _ _ _ _ _ _ w6 (SrcV.below HX5.out hb6) hs6 (by have := jn_len_ge ls6; rw [HLT.out.2.2] at this; have h2 := Lib.trimSuffix_le tx.data.toList [10]; rw [Str.size_str] at h2; simp at this; omega)
        have HB6 := Lib.hid hb06
        clear hls hs6 hb6 hb06 hc6 h06 hj6
        go_wp2_with fail
        refine hsm.mono ?_
        rintro e w7 ⟨rfl, hb7⟩
        have hbf := HB6.out.trans (hb7.mono HB6.out.size)
        clear hsm hb7
        go_wp2
        go_ret
        exact ⟨rfl, hbf⟩
      · have hte := Str.empty_of_pos (x := tx) (by omega)
        obtain ⟨m, hmm⟩ : ∃ m, tx.size = m + 1 := ⟨tx.size - 1, by omega⟩
        have hw_4 : IntKind.i64.wrap ((tx.size : Int) - 1) = (m : Int) := by rw [IntKind.wrap_i64]; omega
        have hms : m < tx.size := by omega
        have hms2 : m ≤ tx.size := by omega
        have HMM := Lib.hid hmm
        by_cases h10 : tx[m] = 10
        · have hb10 := byte_eq hms h10
          have HTR : Hid ((tx.extract 0 m).data.toList = Lib.trimSuffix tx.data.toList [10]) := trim_hit tx m hmm h10
          clear h10 hmm
          go_wp2_with fail
          refine hsp.mono ?_
          rintro e w5 ⟨rfl, hw5⟩
          clear hsp
          have hb5 : Below w.heap.size w w5 := by rw [hw5]; exact HB4.out.alloc hz4 _
          have hx5 : Ss w5 (some ⟨w4.heap.size, 0, none⟩) lt.length lt.length lt := by rw [hw5]; exact ss_lit w4 lt ES _ rfl (by have := jn_len_ge lt; rw [HLT.out.2.2] at this; have h2 := Lib.trimSuffix_le tx.data.toList [10]; rw [Str.size_str] at h2; simp at this; omega)
          have hls := lawSplit (tx.extract 0 m) w5 (by have h3 : (tx.extract 0 m).size = m := (by rw [← Str.size_str, Str.ext_upto, List.length_take, Str.size_str]; omega); omega)
          have HX5 := Lib.hid hx5
          have HB5 := Lib.hid hb5
          clear hw5 hx5 hb5
          go_wp2_with fail
          refine hls.mono ?_
          rintro e w6 ⟨lb, lk, lc, ls6, rfl, hs6, hc6, h06, hj6, hb6⟩
          have hel : ls6 = lt := jn_inj hc6 HLT.out.1 (by rw [hj6, HLT.out.2.2]; exact congrArg (· ++ [10]) HTR.out)
          subst hel
          have hb06 := HB5.out.trans (hb6.mono HB5.out.size)
          have hlk := hs6.length
          subst hlk
          have hsm := same_any _ _ _ _ _ _ w6 (SrcV.below HX5.out hb6) hs6 (by have := jn_len_ge ls6; rw [HLT.out.2.2] at this; have h2 := Lib.trimSuffix_le tx.data.toList [10]; rw [Str.size_str] at h2; simp at this; omega)
          have HB6 := Lib.hid hb06
          clear hls hs6 hb6 hb06 hc6 h06 hj6
          go_wp2_with fail
          refine hsm.mono ?_
          rintro e w7 ⟨rfl, hb7⟩
          have hbf := HB6.out.trans (hb7.mono HB6.out.size)
          clear hsm hb7
          go_wp2
          go_ret
          exact ⟨rfl, hbf⟩
        · have hb10 := byte_ne hms h10
          have HTR : Hid (tx.data.toList = Lib.trimSuffix tx.data.toList [10]) := (trim_miss tx (.inr ⟨m, hmm, h10⟩)).symm
          clear h10 hmm
          go_wp2_with fail
          refine hsp.mono ?_
          rintro e w5 ⟨rfl, hw5⟩
          clear hsp
          have hb5 : Below w.heap.size w w5 := by rw [hw5]; exact HB4.out.alloc hz4 _
          have hx5 : Ss w5 (some ⟨w4.heap.size, 0, none⟩) lt.length lt.length lt := by rw [hw5]; exact ss_lit w4 lt ES _ rfl (by have := jn_len_ge lt; rw [HLT.out.2.2] at this; have h2 := Lib.trimSuffix_le tx.data.toList [10]; rw [Str.size_str] at h2; simp at this; omega)
          have hls := lawSplit tx w5 (by omega)
          have HX5 := Lib.hid hx5
          have HB5 := Lib.hid hb5
          clear hw5 hx5 hb5
          go_wp2_with fail
          refine hls.mono ?_
          rintro e w6 ⟨lb, lk, lc, ls6, rfl, hs6, hc6, h06, hj6, hb6⟩
          have hel : ls6 = lt := jn_inj hc6 HLT.out.1 (by rw [hj6, HLT.out.2.2]; exact congrArg (· ++ [10]) HTR.out)
          subst hel
          have hb06 := HB5.out.trans (hb6.mono HB5.out.size)
          have hlk := hs6.length
          subst hlk
          have hsm := same_any _ _ _ _ _ _ w6 (SrcV.below HX5.out hb6) hs6 (by have := jn_len_ge ls6; rw [HLT.out.2.2] at this; have h2 := Lib.trimSuffix_le tx.data.toList [10]; rw [Str.size_str] at h2; simp at this; omega)
          have HB6 := Lib.hid hb06
          clear hls hs6 hb6 hb06 hc6 h06 hj6
          go_wp2_with fail
          refine hsm.mono ?_
          rintro e w7 ⟨rfl, hb7⟩
          have hbf := HB6.out.trans (hb7.mono HB6.out.size)
          clear hsm hb7
          go_wp2
          go_ret
          exact ⟨rfl, hbf⟩
    · have d5 : decide ((L : Int) + 1 ≤ 4096) = false := decide_eq_false (by omega)
      clear HF
      by_cases ht0 : tx.size = 0
      · have hte := Str.empty_of_zero ht0
        have HTR : Hid (tx.data.toList = Lib.trimSuffix tx.data.toList [10]) := (trim_miss tx (.inl ht0)).symm
        go_wp2_with fail
        refine hsp.mono ?_
        rintro e w5 ⟨rfl, hw5⟩
        clear hsp
        have hb5 : Below w.heap.size w w5 := by rw [hw5]; exact HB4.out.alloc hz4 _
        have hx5 : Ss w5 (some ⟨w4.heap.size, 0, none⟩) lt.length lt.length lt := by rw [hw5]; exact ss_lit w4 lt ES _ rfl (by have := jn_len_ge lt; rw [HLT.out.2.2] at this; have h2 := Lib.trimSuffix_le tx.data.toList [10]; rw [Str.size_str] at h2; simp at this; omega)
        have hls := lawSplit tx w5 (by omega)
        have HX5 := Lib.hid hx5
        have HB5 := Lib.hid hb5
        clear hw5 hx5 hb5
        go_wp2_with fail
        refine hls.mono ?_
        rintro e w6 ⟨lb, lk, lc, ls6, rfl, hs6, hc6, h06, hj6, hb6⟩
        have hel : ls6 = lt := jn_inj hc6 HLT.out.1 (by rw [hj6, HLT.out.2.2]; exact congrArg (· ++ [10]) HTR.out)
        subst hel
        have hb06 := HB5.out.trans (hb6.mono HB5.out.size)
        have hlk := hs6.length
        subst hlk
        have hsm := same_any _ _ _ _ _ _ w6 (SrcV.below HX5.out hb6) hs6 (by have := jn_len_ge ls6; rw [HLT.out.2.2] at this; have h2 := Lib.trimSuffix_le tx.data.toList [10]; rw [Str.size_str] at h2; simp at this; omega)
        have HB6 := Lib.hid hb06
        clear hls hs6 hb6 hb06 hc6 h06 hj6
        go_wp2_with fail
        refine hsm.mono ?_
        rintro e w7 ⟨rfl, hb7⟩
        have hbf := HB6.out.trans (hb7.mono HB6.out.size)
        clear hsm hb7
        go_wp2
        go_ret
        exact ⟨rfl, hbf⟩
      · have hte := Str.empty_of_pos (x := tx) (by omega)
        obtain ⟨m, hmm⟩ : ∃ m, tx.size = m + 1 := ⟨tx.size - 1, by omega⟩
        have hw_4 : IntKind.i64.wrap ((tx.size : Int) - 1) = (m : Int) := by rw [IntKind.wrap_i64]; omega
        have hms : m < tx.size := by omega
        have hms2 : m ≤ tx.size := by omega
        have HMM := Lib.hid hmm
        by_cases h10 : tx[m] = 10
        · have hb10 := byte_eq hms h10
          have HTR : Hid ((tx.extract 0 m).data.toList = Lib.trimSuffix tx.data.toList [10]) := trim_hit tx m hmm h10
          clear h10 hmm
          go_wp2_with fail
          refine hsp.mono ?_
          rintro e w5 ⟨rfl, hw5⟩
          clear hsp
          have hb5 : Below w.heap.size w w5 := by rw [hw5]; exact HB4.out.alloc hz4 _
          have hx5 : Ss w5 (some ⟨w4.heap.size, 0, none⟩) lt.length lt.length lt := by rw [hw5]; exact ss_lit w4 lt ES _ rfl (by have := jn_len_ge lt; rw [HLT.out.2.2] at this; have h2 := Lib.trimSuffix_le tx.data.toList [10]; rw [Str.size_str] at h2; simp at this; omega)
          have hls := lawSplit (tx.extract 0 m) w5 (by have h3 : (tx.extract 0 m).size = m := (by rw [← Str.size_str, Str.ext_upto, List.length_take, Str.size_str]; omega); omega)
          have HX5 := Lib.hid hx5
          have HB5 := Lib.hid hb5
          clear hw5 hx5 hb5
          go_wp2_with fail
          refine hls.mono ?_
          rintro e w6 ⟨lb, lk, lc, ls6, rfl, hs6, hc6, h06, hj6, hb6⟩
          have hel : ls6 = lt := jn_inj hc6 HLT.out.1 (by rw [hj6, HLT.out.2.2]; exact congrArg (· ++ [10]) HTR.out)
          subst hel
          have hb06 := HB5.out.trans (hb6.mono HB5.out.size)
          have hlk := hs6.length
          subst hlk
          have hsm := same_any _ _ _ _ _ _ w6 (SrcV.below HX5.out hb6) hs6 (by have := jn_len_ge ls6; rw [HLT.out.2.2] at this; have h2 := Lib.trimSuffix_le tx.data.toList [10]; rw [Str.size_str] at h2; simp at this; omega)
          have HB6 := Lib.hid hb06
          clear hls hs6 hb6 hb06 hc6 h06 hj6
          go_wp2_with fail
          refine hsm.mono ?_
          rintro e w7 ⟨rfl, hb7⟩
          have hbf := HB6.out.trans (hb7.mono HB6.out.size)
          clear hsm hb7
          go_wp2
          go_ret
          exact ⟨rfl, hbf⟩
        · have hb10 := byte_ne hms h10
          have HTR : Hid (tx.data.toList = Lib.trimSuffix tx.data.toList [10]) := (trim_miss tx (.inr ⟨m, hmm, h10⟩)).symm
          clear h10 hmm
          go_wp2_with fail
          refine hsp.mono ?_
          rintro e w5 ⟨rfl, hw5⟩
          clear hsp
          have hb5 : Below w.heap.size w w5 := by rw [hw5]; exact HB4.out.alloc hz4 _
          have hx5 : Ss w5 (some ⟨w4.heap.size, 0, none⟩) lt.length lt.length lt := by rw [hw5]; exact ss_lit w4 lt ES _ rfl (by have := jn_len_ge lt; rw [HLT.out.2.2] at this; have h2 := Lib.trimSuffix_le tx.data.toList [10]; rw [Str.size_str] at h2; simp at this; omega)
          have hls := lawSplit tx w5 (by omega)
          have HX5 := Lib.hid hx5
          have HB5 := Lib.hid hb5
          clear hw5 hx5 hb5
          go_wp2_with fail
          refine hls.mono ?_
          rintro e w6 ⟨lb, lk, lc, ls6, rfl, hs6, hc6, h06, hj6, hb6⟩
          have hel : ls6 = lt := jn_inj hc6 HLT.out.1 (by rw [hj6, HLT.out.2.2]; exact congrArg (· ++ [10]) HTR.out)
          subst hel
          have hb06 := HB5.out.trans (hb6.mono HB5.out.size)
          have hlk := hs6.length
          subst hlk
          have hsm := same_any _ _ _ _ _ _ w6 (SrcV.below HX5.out hb6) hs6 (by have := jn_len_ge ls6; rw [HLT.out.2.2] at this; have h2 := Lib.trimSuffix_le tx.data.toList [10]; rw [Str.size_str] at h2; simp at this; omega)
          have HB6 := Lib.hid hb06
          clear hls hs6 hb6 hb06 hc6 h06 hj6
          go_wp2_with fail
          refine hsm.mono ?_
          rintro e w7 ⟨rfl, hb7⟩
          have hbf := HB6.out.trans (hb7.mono HB6.out.size)
          clear hsm hb7
          go_wp2
          go_ret
          exact ⟨rfl, hbf⟩
end Go.Proofs.YtfllgmgipmmpkaaGreatDoor.BNew
