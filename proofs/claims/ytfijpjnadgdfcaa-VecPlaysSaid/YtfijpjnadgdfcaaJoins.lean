/-
  The law VecJoins, walked.
-/
import Derived.Test.YtfijpjnadgdfcaaAll
import Derived.Test.YtfijpjnadgdfcaaKnown
import Derived.LoopTactic
import Derived.BigQuiet
import Derived.Deep.QuietTactic
import Derived.Deep.RegionLaw
set_option linter.unusedVariables false
namespace Go.Proofs.Ytfijpjnadgdfcaa.Joins
open Go Go.RowKit Go.Proofs.Ytfijpjnadgdfcaa.Vk
open VecI (E infoE underS)

theorem SrcV_some {w : World} {x : Option Addr} {n c : Nat} {news : List Value} (h : SrcV w 1 (.slice x n c) n news) (h0 : 0 < n) : ∃ b o, x = some ⟨b, o, none⟩ ∧ n ≤ c ∧ c ≤ 9223372036854775807 ∧ ∀ j u, news[j]? = some u → w.cell? ⟨b, o + j, none⟩ = some u := by
  rcases h.2.2.2 with ⟨_, _, h1⟩ | ⟨b, o, c', h1, h2, h3, h4⟩
  · omega
  · simp only [Value.slice.injEq] at h1
    obtain ⟨rfl, _, rfl⟩ := h1
    exact ⟨b, o, rfl, h2, by simpa [maxLen] using h3, h4⟩

/-- same says true of two slices with the same elements. -/
theorem same_any (xa xb : Option Addr) (n ca cb : Nat) (zs : List Int) (w : World) (ha : SrcV w 1 (.slice xa n ca) n (zs.map (.int .i64))) (hb : SrcV w 1 (.slice xb n cb) n (zs.map (.int .i64))) (hn : n ≤ 1000000) :
    Calls Try.prog 12 #[.slice xa n ca, .slice xb n cb] w fun e w' => e = .returned (.bool true) ∧ Below w.heap.size w w' := by
  have hnn : ((n : Int) != (n : Int)) = false := by simp
  go_enter Try.func12, Try.ntmps12
  go_wp2
  go_loopw [5] (fun i wr => ∃ k : Nat, k ≤ n ∧ i = .int .i64 k ∧ Hid (Below w.heap.size w wr)) (fun i _ => n - (RowKit.intOf i).toNat)
  case atStart => exact ⟨0, Nat.zero_le _, rfl, Below.refl _ _⟩
  case round =>
    obtain ⟨k, hk, rfl, hbr⟩ := hrel
    by_cases hkn : k < n
    · obtain ⟨b1, o1, rfl, hc1, hm1, hx1⟩ := SrcV_some (ha.below hbr.out) (by omega)
      obtain ⟨b2, o2, rfl, hc2, hm2, hx2⟩ := SrcV_some (hb.below hbr.out) (by omega)
      have hl : k < (zs.map (Value.int .i64)).length := by have := ha.1; omega
      obtain ⟨z, hz⟩ := map_int zs k hl
      have f1 := hx1 k _ hz
      have f2 := hx2 k _ hz
      have hzz : (z != z) = false := by simp
      have hk0 : (0 : Int) ≤ (k : Int) := by omega
      have hk1 : (k : Int) < (n : Int) := by omega
      clear hx1 hx2 hz hl
      go_wp2
      go_quiet (fail)
      go_wp2
      go_roundw
      case rel => exact ⟨k + 1, by omega, by go_num, by first | exact hbr.out.drew | exact below_drewN hbr.out _⟩
      case measure => simp [RowKit.intOf]; omega
    · go_wp2
      go_ret
      exact ⟨rfl, hbr.out⟩

theorem long (lb : Option Addr) (n lc : Nat) (mb : Option Addr) (m mc : Nat) (a1 : Int) (w : World) (hl : n ≤ 9223372036854775807) (hm : m ≤ 9223372036854775807) (h : 40 < n ∨ 40 < m) :
    Calls Try.prog 6 #[.slice lb n lc, .int .u8 a1, .slice mb m mc] w fun e w' => e = .returned (.bool true) ∧ Below w.heap.size w w' := by
  by_cases h1 : 40 < n
  · clear h
    go_enter Try.func6, Try.ntmps6
    go_wp2_with (go_at_call 8; refine (VecI.known_any _).mono ?_; rintro e w1 ⟨rfl, hb⟩)
    go_ret
    exact ⟨rfl, hb⟩
  · have h2 : 40 < m := by omega
    clear h
    go_enter Try.func6, Try.ntmps6
    go_wp2_with (go_at_call 8; refine (VecI.known_any _).mono ?_; rintro e w1 ⟨rfl, hb⟩)
    go_ret
    exact ⟨rfl, hb⟩

theorem grow_one (Z M : List Value) (q k : Nat) (e : Value) (hq : q ≤ Z.length) (he : M[k]? = some e) :
    (Z.take q ++ M.take k ++ Z.drop q).take (q + k) ++ [e] ++ (Z.take q ++ M.take k ++ Z.drop q).drop (q + k) = Z.take q ++ M.take (k + 1) ++ Z.drop q := by
  have hk := (List.getElem?_eq_some_iff.1 he).1
  have hl : (Z.take q ++ M.take k).length = q + k := by simp; omega
  rw [List.take_left' hl, List.drop_left' hl, List.take_add_one, he]
  simp

theorem cut_back (Z M : List Value) (q m : Nat) (hq : q ≤ Z.length) (hm : M.length = m) :
    (Z.take q ++ M ++ Z.drop q).take q ++ (Z.take q ++ M ++ Z.drop q).drop (q + m) = Z ∧ ((Z.take q ++ M ++ Z.drop q).drop q).take m = M := by
  have hl : (Z.take q).length = q := by simp; omega
  have hl2 : (Z.take q ++ M).length = q + m := by simp; omega
  constructor
  · rw [List.drop_left' hl2, List.append_assoc, List.take_left' hl, List.take_append_drop]
  · rw [List.append_assoc, List.drop_left' hl, List.take_left' hm]

set_option maxHeartbeats 4000000 in
set_option maxRecDepth 100000 in
theorem short (lb : Option Addr) (n lc : Nat) (zs : List Int) (mb : Option Addr) (m mc : Nat) (ms : List Int) (a1 : Int) (q : Nat) (w : World) (hl : SrcV w 1 (.slice lb n lc) n (zs.map (.int .i64))) (hm : SrcV w 1 (.slice mb m mc) m (ms.map (.int .i64)))
    (hn : n ≤ 40) (hm40 : m ≤ 40) (ha0 : 0 ≤ a1) (ha1 : a1 ≤ 255) (hqa : a1 % ((n : Int) + 1) = (q : Int)) (hq : q ≤ n) :
    Calls Try.prog 6 #[.slice lb n lc, .int .u8 a1, .slice mb m mc] w fun e w' => e = .returned (.bool true) ∧ Below w.heap.size w w' := by
  obtain ⟨i0, hi, hz0, hz1, hz2⟩ := info_parts infoE
  have hd1 : decide (40 < (n : Int)) = false := by simp; omega
  have hd2 : decide (40 < (m : Int)) = false := by simp; omega
  have hzl : zs.length = n := by have := hl.1; simpa using this
  have hml : ms.length = m := by have := hm.1; simpa using this
  have hn10 : (n : Int) + 1 ≠ 0 := by omega
  have HZL := Lib.hid hzl
  have HML := Lib.hid hml
  clear hzl hml
  go_enter Try.func6, Try.ntmps6
  go_wp2_with fail
  refine (VecI.known_any _).mono ?_
  rintro e w1 ⟨rfl, hb1⟩
  go_wp2_with fail
  refine (VecI.new_any _ n _ w1 (hl.below hb1) (by omega)).mono ?_
  rintro e w2 ⟨p1, r1, rfl, hv1, hb2⟩
  have hs1 := hb1.size
  have hb2 := hb1.trans (hb2.mono hs1)
  have hv1 := hv1.mono hs1
  go_wp2_with fail
  refine (VecI.new_any _ n _ w2 (hl.below hb2) (by omega)).mono ?_
  rintro e w3 ⟨p2, r2, rfl, hv2, hb3⟩
  have hs2 := hb2.size
  have l1 := hv1.lt
  have l1r := hv1.rowLt
  have hv1 := hv1.fr (Fr.ofBelow hb3 (fun _ => False)) (by simp) (by simp)
  have hb3' := hb2.trans (hb3.mono hs2)
  have l2 := hv2.lt
  have l2r := hv2.rowLt
  have hv2 := hv2.mono hs2
  have hs3 := hb3'.size
  have h1c : ∀ u ∈ zs.map (Value.int .i64), u.oneCell' = true := fun u hu => by obtain ⟨s, _, rfl⟩ := List.mem_map.1 hu; rfl
  have h1m : ∀ u ∈ ms.map (Value.int .i64), u.oneCell' = true := fun u hu => by obtain ⟨s, _, rfl⟩ := List.mem_map.1 hu; rfl
  have hm3 := hm.below hb3'
  have hins := VecI.insert_in w.heap.size p1 r1 n _ q _ m _ w3 hv1 h1c hm3 (fun h0 j hj hr => by have := hm.blkLt (by omega) j hj; have := (l1r j hr).1; omega) hq (by omega) (by omega)
  clear hv1 hm3 hb1 hb2 hb3
  go_wp2_with fail
  refine hins.mono ?_
  rintro e w4 ⟨rfl, r1', hv1, hf4, hr1⟩
  clear hins
  have hb4 : Below w.heap.size w w4 := hb3'.trans (hf4.below hs3 (fun k hk => by rcases hk with rfl | hk; omega; have := (l1r k hk).1; omega))
  have hv2 := hv2.fr hf4 (fun h => by rcases h with h | h; omega; have := (l1r _ h).2; omega) (fun j hj h => by have := (l2r j hj).1; rcases h with h | h; omega; have := (l1r _ h).2; omega)
  have hsep : p1 ≠ p2 ∧ (∀ j, r1' = some j → j ≠ p2 ∧ r2 ≠ some j) := by
    refine ⟨by omega, fun j hj => ?_⟩
    rcases hr1 with rfl | ⟨g, rfl, hg⟩
    · have h1 := (l1r j hj).2
      refine ⟨by omega, fun h => ?_⟩
      have := (l2r j h).1
      omega
    · cases hj
      refine ⟨by omega, fun h => ?_⟩
      have := (l2r _ h).2
      omega
  have hp2 : ∀ j, r2 = some j → j ≠ p1 := fun j hj => by have := (l2r j hj).1; omega
  have HB4 := Lib.hid hb4
  have HV1 := Lib.hid hv1
  have HV2 := Lib.hid hv2
  have HS := Lib.hid hsep
  have HP2 := Lib.hid hp2
  have hp1w := l1.1
  have hp2w : w.heap.size ≤ p2 := by omega
  clear hv1 hv2 hf4 hr1 hsep hp2 l1r l2r hb3' hb4
  go_wp2_with fail
  go_loopw [10] (fun i wr => ∃ k : Nat, k ≤ m ∧ i = .int .i64 k ∧ Hid (IsVec wr w.heap.size 52 E 1 p1 r1' (n + m) ((zs.map (.int .i64)).take q ++ ms.map (.int .i64) ++ (zs.map (.int .i64)).drop q)) ∧ Hid (Below w.heap.size w wr) ∧
    Hid (∃ r, IsVec wr w.heap.size 52 E 1 p2 r (n + k) ((zs.map (.int .i64)).take q ++ (ms.map (.int .i64)).take k ++ (zs.map (.int .i64)).drop q) ∧ (∀ j, r1' = some j → j ≠ p2 ∧ r ≠ some j) ∧ (∀ j, r = some j → j ≠ p1))) (fun i _ => m - (RowKit.intOf i).toNat)
  case atStart => exact ⟨0, Nat.zero_le _, rfl, HV1, HB4, ⟨r2, by simpa using HV2.out, HS.out.2, HP2.out⟩⟩
  case round =>
    obtain ⟨k, hk, rfl, hva, hbr, hvb⟩ := hrel
    by_cases hkm : k < m
    · obtain ⟨rb, hvb1, hvb2, hvb3⟩ := hvb.out
      obtain ⟨xb, xo, rfl, hc1, hm1, hx1⟩ := SrcV_some (hm.below hbr.out) (by omega)
      have hlk : k < (ms.map (Value.int .i64)).length := by have := HML.out; simpa [this] using hkm
      obtain ⟨z, hz⟩ := map_int ms k hlk
      have fz := hx1 k _ hz
      have hvb4 := hvb1.fr ((Fr.refl (fun _ => False) _).alloc (.cells #[.int .i64 z] 3)) (by simp) (by simp)
      have hrl := hvb1.rowLt
      have hbz := hbr.out.size
      have hlz := hvb1.lt
      have hins := VecI.insert_in w.heap.size p2 rb (n + k) _ (q + k) _ 1 [.int .i64 z] _ hvb4 (fun u hu => by
          simp only [List.mem_append] at hu
          rcases hu with (hu | hu) | hu
          · exact h1c u (List.mem_of_mem_take hu)
          · exact h1m u (List.mem_of_mem_take hu)
          · exact h1c u (List.mem_of_mem_drop hu)) (SrcV.lit wr #[.int .i64 z] _ 1 rfl (by simp [Value.oneCell']) (by simp [maxLen])) (fun _ j hj hr => by simp [blk] at hj; have := (hrl j hr).2; omega) (by omega) (by omega) (by omega)
      rw [grow_one _ _ q k _ (by have := HZL.out; simp; omega) hz] at hins
      rw [show ((q + k : Nat) : Int) = (q : Int) + (k : Int) from by omega] at hins
      have HVB2 := Lib.hid hvb2
      have HVB3 := Lib.hid hvb3
      have HRL := Lib.hid hrl
      clear hx1 hz hlk hvb1 hvb2 hvb3 hvb4 hrl
      go_wp2_with fail
      refine hins.mono ?_
      rintro e w5 ⟨rfl, r5, hv5, hf5, hr5⟩
      have hfA : Fr (fun b => b = p2 ∨ rb = some b) wr w5 := ((Fr.refl _ wr).alloc _).trans hf5
      have hva5 := hva.out.fr hfA (fun h => by rcases h with h | h; exact HS.out.1 h; exact HVB3.out _ h rfl) (fun j hj h => by rcases h with h | h; exact (HVB2.out j hj).1 h; exact (HVB2.out j hj).2 h)
      have hb5 : Below w.heap.size w w5 := hbr.out.trans (hfA.below hbz (fun b hb => by rcases hb with rfl | hb; omega; exact (HRL.out b hb).1))
      have hal := hva.out.lt
      have hrl1 := hva.out.rowLt
      have HV5 := Lib.hid hv5
      have HVA := Lib.hid hva5
      have HB5 := Lib.hid hb5
      have HX5 : Hid ((∀ j, r1' = some j → j ≠ p2 ∧ r5 ≠ some j) ∧ (∀ j, r5 = some j → j ≠ p1)) := by
        rcases hr5 with rfl | ⟨g, rfl, hg⟩
        · exact ⟨HVB2.out, HVB3.out⟩
        · simp only [World.size_alloc] at hg
          refine ⟨fun j hj => ⟨(HVB2.out j hj).1, fun e => ?_⟩, fun j e => ?_⟩
          · cases e; have := (hrl1 _ hj).2; omega
          · cases e; omega
      clear hv5 hva5 hb5 hf5 hr5 hfA hins hrl1
      go_wp2
      go_roundw
      case rel => exact ⟨k + 1, by omega, by go_num, HVA, HB5, ⟨r5, by have := HV5.out; rwa [Nat.add_assoc] at this, HX5.out.1, HX5.out.2⟩⟩
      case measure => simp [RowKit.intOf]; omega
    · obtain rfl : k = m := by omega
      obtain ⟨rb, hvb1, hvb2, hvb3⟩ := hvb.out
      rw [show (ms.map (Value.int .i64)).take k = ms.map (Value.int .i64) from List.take_of_length_le (by have := HML.out; simp; omega)] at hvb1
      have hbr' := hbr.out
      have hl6 : SrcV wr.drew 1 (.slice lb n lc) n (zs.map (.int .i64)) := hl.below hbr'.drew
      have hm6 : SrcV wr.drew 1 (.slice mb k mc) k (ms.map (.int .i64)) := hm.below hbr'.drew
      have HVB := Lib.hid hvb1
      have HBR := Lib.hid hbr'
      clear hvb1 hvb2 hvb3 hbr' hbr hvb HV1 HV2 HB4
      go_wp2
      rcases hl.2.2.2 with ⟨ao, hx, h0⟩ | ⟨lab, lao, c', hx, hlc1, hlc2, _⟩
      · simp only [Value.slice.injEq] at hx
        obtain ⟨rfl, rfl, rfl⟩ := hx
        obtain rfl : q = 0 := by omega
        have hzs : zs = [] := List.eq_nil_of_length_eq_zero HZL.out
        subst hzs
        cases lb with
        | none =>
          have hlt6 : SrcV wr.drew 1 (.slice none 0 0) 0 ((([] : List Int).map (Value.int .i64)).take 0) := SrcV.nil _ 1
          have hld6 : SrcV wr.drew 1 (.slice none 0 0) (0 - 0) ((([] : List Int).map (Value.int .i64)).drop 0) := SrcV.nil _ 1
          have HLT : Hid (0 < 0 - 0 → ∀ j, blk (.slice none 0 0) = some j → ¬ wr.heap.size ≤ j) := fun h => by omega
          clear hl6
          go_region_law (first
            | (refine step_append_srcv rfl (.const (.slice none 0 0)) (.tmp 56) 22 rfl wr.heap.size E i0 (.int .i64 0) 1 8 underS hi hz0 hz1 hz2 rfl (by decide) (.slice none 0 0) 0 [] (by first | (simp [Act.eval]; done) | simp [Act.eval, Act.put]) (World.ownsRow_nil wr.drew wr.heap.size E 1) (.slice none 0 0) 0 ((([] : List Int).map (Value.int .i64)).take 0) (by first | (simp [Act.eval]; done) | simp [Act.eval, Act.put]) hlt6 (by simp only [maxLen]; omega) (by omega) (Nat.le_refl _) ?_
               intro b7 c7 w7 h7 g7 n7
               have f7 : Fr (fun _ => False) wr.drew w7 := (Fr.refl _ _).grown g7 (by intro jj hk; simp [Value.ownBlock] at hk)
               have hm7 : SrcV w7 1 (.slice mb k mc) k (ms.map (.int .i64)) := hm6.fr f7 (by simp)
               have hs7 := f7.size
               have F7 := Lib.hid f7
               simp only [Nat.zero_add, List.nil_append] at h7
               clear g7 n7 f7)
            | (refine step_append_srcv rfl (.tmp 57) (.tmp 58) 22 rfl wr.heap.size E i0 (.int .i64 0) 1 8 underS hi hz0 hz1 hz2 rfl (by decide) (.slice b7 0 c7) 0 ((([] : List Int).map (Value.int .i64)).take 0) (by first | (simp [Act.eval]; done) | simp [Act.eval, Act.put]) h7 (.slice mb k mc) k (ms.map (.int .i64)) (by first | (simp [Act.eval]; done) | simp [Act.eval, Act.put]) hm7 (by simp only [maxLen]; omega) (by omega) hs7 ?_
               intro b8 c8 w8 h8 g8 n8
               have f8 : Fr (fun j => wr.heap.size ≤ j) w7 w8 := (Fr.refl _ _).grown g8 (by intro jj hk _; exact (h7.lt jj (by simpa [Act.eval] using hk)).1)
               have hd8 : SrcV w8 1 (.slice none 0 0) (0 - 0) ((([] : List Int).map (Value.int .i64)).drop 0) := (hld6.fr F7.out (by simp)).fr f8 HLT.out
               have hs8 : wr.heap.size ≤ w8.heap.size := Nat.le_trans hs7 f8.size
               have F8 := Lib.hid f8
               clear g8 n8 f8)
            | (refine step_append_srcv rfl (.tmp 59) (.tmp 62) 22 rfl wr.heap.size E i0 (.int .i64 0) 1 8 underS hi hz0 hz1 hz2 rfl (by decide) (.slice b8 (0 + k) c8) (0 + k) ((([] : List Int).map (Value.int .i64)).take 0 ++ ms.map (.int .i64)) (by first | (simp [Act.eval]; done) | simp [Act.eval, Act.put]) h8 (.slice none 0 0) (0 - 0) ((([] : List Int).map (Value.int .i64)).drop 0) (by first | (simp [Act.eval]; done) | simp [Act.eval, Act.put]) hd8 (by simp only [maxLen]; omega) (by omega) hs8 ?_
               intro wb wc w5 h9 g9 n9
               have f9 : Fr (fun j => wr.heap.size ≤ j) w8 w5 := (Fr.refl _ _).grown g9 (by intro jj hk _; exact (h8.lt jj (by simpa [Act.eval] using hk)).1)
               have F9 := Lib.hid f9
               simp only [Nat.zero_add, Nat.sub_self, Nat.add_zero] at h9 ⊢
               clear g9 n9 f9))
          have hf : Fr (fun j => wr.heap.size ≤ j) wr w5 := ((Fr.drew (Fr.refl _ wr)).trans (F7.out.mono (fun _ _ h => h.elim))).trans (F8.out.trans F9.out)
          have h1A : ∀ u ∈ (([] : List Int).map (Value.int .i64)).take 0 ++ ms.map (Value.int .i64) ++ (([] : List Int).map (Value.int .i64)).drop 0, u.oneCell' = true := fun u hu => by
            simp only [List.mem_append] at hu
            rcases hu with (hu | hu) | hu
            · exact h1c u (List.mem_of_mem_take hu)
            · exact h1m u hu
            · exact h1c u (List.mem_of_mem_drop hu)
          have hbr5 := HBR.out.size
          have hb5 : Below w.heap.size w w5 := HBR.out.trans (hf.below (B := w.heap.size) hbr5 (fun j hj => Nat.le_trans hbr5 hj))
          have hva5 := hva.out.fr hf (by have := hva.out.lt; omega) (fun j hj => by have := hva.out.rowLt j hj; omega)
          have hvb5 := HVB.out.fr hf (by have := HVB.out.lt; omega) (fun j hj => by have := HVB.out.rowLt j hj; omega)
          have hw5 := SrcV.ofOwn h9 h1A
          rw [Nat.zero_add] at hva5 hvb5
          have hAA : (([] : List Int).map (Value.int .i64)).take 0 ++ ms.map (Value.int .i64) ++ (([] : List Int).map (Value.int .i64)).drop 0 = (([] : List Int).take 0 ++ ms ++ ([] : List Int).drop 0).map (Value.int .i64) := by simp
          rw [hAA] at hw5
          have hva5' := hva5
          have hvb5' := hvb5
          rw [hAA] at hva5' hvb5'
          have hal1 := VecI.all_any w.heap.size p1 r1' k (([] : List Int).take 0 ++ ms ++ ([] : List Int).drop 0) wb wc w5 hva5' (by omega) hw5
          have HB5 := Lib.hid hb5
          have HVA := Lib.hid hva5
          have HVB5 := Lib.hid hvb5'
          have HW5 := Lib.hid hw5
          have H1A := Lib.hid h1A
          clear h9 h8 h7 hm7 hd8 hf hm6 hlt6 hld6 hva5 hvb5 hva5' hvb5' hw5 hAA h1A hb5
          go_wp2_with fail
          refine hal1.mono ?_
          rintro e w10 ⟨rfl, hb10⟩
          have hal2 := VecI.all_any w.heap.size p2 rb k (([] : List Int).take 0 ++ ms ++ ([] : List Int).drop 0) wb wc w10 (HVB5.out.fr (Fr.ofBelow hb10 (fun _ => False)) (by simp) (by simp)) (by omega) (HW5.out.below hb10)
          have HB10 := Lib.hid hb10
          clear hb10 hal1
          go_wp2_with fail
          refine hal2.mono ?_
          rintro e w11 ⟨rfl, hb11⟩
          have hb511 := HB10.out.trans (hb11.mono HB10.out.size)
          have hva11 := HVA.out.fr (Fr.ofBelow hb511 (fun _ => False)) (by simp) (by simp)
          have hbw11 := HB5.out.trans (hb511.mono HB5.out.size)
          have hsw11 := hbw11.size
          have HB11 := Lib.hid hbw11
          have HVA11 := Lib.hid hva11
          clear hal2 hb11 hb511 hva11 hbw11
          have hcb := cut_back (([] : List Int).map (Value.int .i64)) (ms.map (Value.int .i64)) 0 k (by simp) (by have := HML.out; simpa using this)
          have hla := HVA11.out.lt.1
          have hlar := HVA11.out.rowLt
          have HLAR := Lib.hid hlar
          clear hlar
          by_cases hk0 : k = 0
          · subst hk0
            have hms : ms = [] := List.eq_nil_of_length_eq_zero HML.out
            subst hms
            have hdel := VecI.delete_none w.heap.size p1 r1' 0 _ (0 : Nat) 0 w11 HVA11.out (.inr (by omega))
            go_wp2_with fail
            refine hdel.mono ?_
            rintro e w' ⟨rfl, rfl⟩
            clear hdel
            have hsm := same_any none mb 0 0 mc [] w11 (SrcV.nil _ 1) (hm.below HB11.out) (by omega)
            go_wp2_with fail
            refine hsm.mono ?_
            rintro e w12 ⟨rfl, hb12⟩
            have hvz := HVA11.out.fr (Fr.ofBelow hb12 (fun _ => False)) (by simp) (by simp)
            have e1 : (([] : List Int).map (Value.int .i64)).take 0 ++ ([] : List Int).map (Value.int .i64) ++ (([] : List Int).map (Value.int .i64)).drop 0 = (([] : List Int).map (Value.int .i64)) := by simp
            rw [e1] at hvz
            have hbw12 := HB11.out.trans (hb12.mono hsw11)
            have hal3 := VecI.all_any w.heap.size p1 r1' 0 ([] : List Int) none 0 w12 hvz (by omega) (hl.below hbw12)
            have HB12 := Lib.hid hbw12
            clear hsm hb12 hvz hbw12
            go_wp2_with fail
            refine hal3.mono ?_
            rintro e w13 ⟨rfl, hb13⟩
            have hbf := HB12.out.trans (hb13.mono HB12.out.size)
            go_wp2
            go_ret
            exact ⟨rfl, hbf⟩
          · have hdel := VecI.delete_in w.heap.size p1 r1' k _ 0 k (k : Int) w11 HVA11.out H1A.out (by omega) (by omega) (by omega) (by omega) (by omega)
            rw [hcb.1, hcb.2] at hdel
            clear hcb
            go_wp2_with fail
            refine hdel.mono ?_
            rintro e w12 ⟨db, dc, rfl, hd12, hv12, hf12⟩
            clear hdel
            have hb12 : Below w.heap.size w w12 := HB11.out.trans (hf12.below hsw11 (fun b hb => by rcases hb with rfl | hb; exact hla; exact (HLAR.out b hb).1))
            have hsm := same_any db mb k dc mc ms w12 (SrcV.ofOwn hd12 h1m) (hm.below hb12) (by omega)
            have HV12 := Lib.hid hv12
            have HB12 := Lib.hid hb12
            clear hd12 hv12 hf12 hb12
            go_wp2_with fail
            refine hsm.mono ?_
            rintro e w13 ⟨rfl, hb13⟩
            have hbw13 := HB12.out.trans (hb13.mono HB12.out.size)
            have hv13 := HV12.out.fr (Fr.ofBelow hb13 (fun _ => False)) (by simp) (by simp)
            rw [Nat.sub_self] at hv13
            have hal3 := VecI.all_any w.heap.size p1 r1' 0 ([] : List Int) none 0 w13 hv13 (by omega) (hl.below hbw13)
            have HB13 := Lib.hid hbw13
            clear hsm hb13 hv13 hbw13
            go_wp2_with fail
            refine hal3.mono ?_
            rintro e w14 ⟨rfl, hb14⟩
            have hbf := HB13.out.trans (hb14.mono HB13.out.size)
            go_wp2
            go_ret
            exact ⟨rfl, hbf⟩
        | some ea =>
          have hlt6 : SrcV wr.drew 1 (.slice (some ea) 0 0) 0 ((([] : List Int).map (Value.int .i64)).take 0) := ⟨by simp, by simp, by simp [maxLen], .inl ⟨_, rfl, rfl⟩⟩
          have hld6 : SrcV wr.drew 1 (.slice (some ea) 0 0) (0 - 0) ((([] : List Int).map (Value.int .i64)).drop 0) := ⟨by simp, by simp, by simp [maxLen], .inl ⟨_, rfl, rfl⟩⟩
          have HLT : Hid (0 < 0 - 0 → ∀ j, blk (.slice (some ea) 0 0) = some j → ¬ wr.heap.size ≤ j) := fun h => by omega
          clear hl6
          go_region_law (first
            | (refine step_append_srcv rfl (.const (.slice none 0 0)) (.tmp 56) 22 rfl wr.heap.size E i0 (.int .i64 0) 1 8 underS hi hz0 hz1 hz2 rfl (by decide) (.slice none 0 0) 0 [] (by first | (simp [Act.eval]; done) | simp [Act.eval, Act.put]) (World.ownsRow_nil wr.drew wr.heap.size E 1) (.slice (some ea) 0 0) 0 ((([] : List Int).map (Value.int .i64)).take 0) (by first | (simp [Act.eval]; done) | simp [Act.eval, Act.put]) hlt6 (by simp only [maxLen]; omega) (by omega) (Nat.le_refl _) ?_
               intro b7 c7 w7 h7 g7 n7
               have f7 : Fr (fun _ => False) wr.drew w7 := (Fr.refl _ _).grown g7 (by intro jj hk; simp [Value.ownBlock] at hk)
               have hm7 : SrcV w7 1 (.slice mb k mc) k (ms.map (.int .i64)) := hm6.fr f7 (by simp)
               have hs7 := f7.size
               have F7 := Lib.hid f7
               simp only [Nat.zero_add, List.nil_append] at h7
               clear g7 n7 f7)
            | (refine step_append_srcv rfl (.tmp 57) (.tmp 58) 22 rfl wr.heap.size E i0 (.int .i64 0) 1 8 underS hi hz0 hz1 hz2 rfl (by decide) (.slice b7 0 c7) 0 ((([] : List Int).map (Value.int .i64)).take 0) (by first | (simp [Act.eval]; done) | simp [Act.eval, Act.put]) h7 (.slice mb k mc) k (ms.map (.int .i64)) (by first | (simp [Act.eval]; done) | simp [Act.eval, Act.put]) hm7 (by simp only [maxLen]; omega) (by omega) hs7 ?_
               intro b8 c8 w8 h8 g8 n8
               have f8 : Fr (fun j => wr.heap.size ≤ j) w7 w8 := (Fr.refl _ _).grown g8 (by intro jj hk _; exact (h7.lt jj (by simpa [Act.eval] using hk)).1)
               have hd8 : SrcV w8 1 (.slice (some ea) 0 0) (0 - 0) ((([] : List Int).map (Value.int .i64)).drop 0) := (hld6.fr F7.out (by simp)).fr f8 HLT.out
               have hs8 : wr.heap.size ≤ w8.heap.size := Nat.le_trans hs7 f8.size
               have F8 := Lib.hid f8
               clear g8 n8 f8)
            | (refine step_append_srcv rfl (.tmp 59) (.tmp 62) 22 rfl wr.heap.size E i0 (.int .i64 0) 1 8 underS hi hz0 hz1 hz2 rfl (by decide) (.slice b8 (0 + k) c8) (0 + k) ((([] : List Int).map (Value.int .i64)).take 0 ++ ms.map (.int .i64)) (by first | (simp [Act.eval]; done) | simp [Act.eval, Act.put]) h8 (.slice (some ea) 0 0) (0 - 0) ((([] : List Int).map (Value.int .i64)).drop 0) (by first | (simp [Act.eval]; done) | simp [Act.eval, Act.put]) hd8 (by simp only [maxLen]; omega) (by omega) hs8 ?_
               intro wb wc w5 h9 g9 n9
               have f9 : Fr (fun j => wr.heap.size ≤ j) w8 w5 := (Fr.refl _ _).grown g9 (by intro jj hk _; exact (h8.lt jj (by simpa [Act.eval] using hk)).1)
               have F9 := Lib.hid f9
               simp only [Nat.zero_add, Nat.sub_self, Nat.add_zero] at h9 ⊢
               clear g9 n9 f9))
          have hf : Fr (fun j => wr.heap.size ≤ j) wr w5 := ((Fr.drew (Fr.refl _ wr)).trans (F7.out.mono (fun _ _ h => h.elim))).trans (F8.out.trans F9.out)
          have h1A : ∀ u ∈ (([] : List Int).map (Value.int .i64)).take 0 ++ ms.map (Value.int .i64) ++ (([] : List Int).map (Value.int .i64)).drop 0, u.oneCell' = true := fun u hu => by
            simp only [List.mem_append] at hu
            rcases hu with (hu | hu) | hu
            · exact h1c u (List.mem_of_mem_take hu)
            · exact h1m u hu
            · exact h1c u (List.mem_of_mem_drop hu)
          have hbr5 := HBR.out.size
          have hb5 : Below w.heap.size w w5 := HBR.out.trans (hf.below (B := w.heap.size) hbr5 (fun j hj => Nat.le_trans hbr5 hj))
          have hva5 := hva.out.fr hf (by have := hva.out.lt; omega) (fun j hj => by have := hva.out.rowLt j hj; omega)
          have hvb5 := HVB.out.fr hf (by have := HVB.out.lt; omega) (fun j hj => by have := HVB.out.rowLt j hj; omega)
          have hw5 := SrcV.ofOwn h9 h1A
          rw [Nat.zero_add] at hva5 hvb5
          have hAA : (([] : List Int).map (Value.int .i64)).take 0 ++ ms.map (Value.int .i64) ++ (([] : List Int).map (Value.int .i64)).drop 0 = (([] : List Int).take 0 ++ ms ++ ([] : List Int).drop 0).map (Value.int .i64) := by simp
          rw [hAA] at hw5
          have hva5' := hva5
          have hvb5' := hvb5
          rw [hAA] at hva5' hvb5'
          have hal1 := VecI.all_any w.heap.size p1 r1' k (([] : List Int).take 0 ++ ms ++ ([] : List Int).drop 0) wb wc w5 hva5' (by omega) hw5
          have HB5 := Lib.hid hb5
          have HVA := Lib.hid hva5
          have HVB5 := Lib.hid hvb5'
          have HW5 := Lib.hid hw5
          have H1A := Lib.hid h1A
          clear h9 h8 h7 hm7 hd8 hf hm6 hlt6 hld6 hva5 hvb5 hva5' hvb5' hw5 hAA h1A hb5
          go_wp2_with fail
          refine hal1.mono ?_
          rintro e w10 ⟨rfl, hb10⟩
          have hal2 := VecI.all_any w.heap.size p2 rb k (([] : List Int).take 0 ++ ms ++ ([] : List Int).drop 0) wb wc w10 (HVB5.out.fr (Fr.ofBelow hb10 (fun _ => False)) (by simp) (by simp)) (by omega) (HW5.out.below hb10)
          have HB10 := Lib.hid hb10
          clear hb10 hal1
          go_wp2_with fail
          refine hal2.mono ?_
          rintro e w11 ⟨rfl, hb11⟩
          have hb511 := HB10.out.trans (hb11.mono HB10.out.size)
          have hva11 := HVA.out.fr (Fr.ofBelow hb511 (fun _ => False)) (by simp) (by simp)
          have hbw11 := HB5.out.trans (hb511.mono HB5.out.size)
          have hsw11 := hbw11.size
          have HB11 := Lib.hid hbw11
          have HVA11 := Lib.hid hva11
          clear hal2 hb11 hb511 hva11 hbw11
          have hcb := cut_back (([] : List Int).map (Value.int .i64)) (ms.map (Value.int .i64)) 0 k (by simp) (by have := HML.out; simpa using this)
          have hla := HVA11.out.lt.1
          have hlar := HVA11.out.rowLt
          have HLAR := Lib.hid hlar
          clear hlar
          by_cases hk0 : k = 0
          · subst hk0
            have hms : ms = [] := List.eq_nil_of_length_eq_zero HML.out
            subst hms
            have hdel := VecI.delete_none w.heap.size p1 r1' 0 _ (0 : Nat) 0 w11 HVA11.out (.inr (by omega))
            go_wp2_with fail
            refine hdel.mono ?_
            rintro e w' ⟨rfl, rfl⟩
            clear hdel
            have hsm := same_any none mb 0 0 mc [] w11 (SrcV.nil _ 1) (hm.below HB11.out) (by omega)
            go_wp2_with fail
            refine hsm.mono ?_
            rintro e w12 ⟨rfl, hb12⟩
            have hvz := HVA11.out.fr (Fr.ofBelow hb12 (fun _ => False)) (by simp) (by simp)
            have e1 : (([] : List Int).map (Value.int .i64)).take 0 ++ ([] : List Int).map (Value.int .i64) ++ (([] : List Int).map (Value.int .i64)).drop 0 = (([] : List Int).map (Value.int .i64)) := by simp
            rw [e1] at hvz
            have hbw12 := HB11.out.trans (hb12.mono hsw11)
            have hal3 := VecI.all_any w.heap.size p1 r1' 0 ([] : List Int) (some ea) 0 w12 hvz (by omega) (hl.below hbw12)
            have HB12 := Lib.hid hbw12
            clear hsm hb12 hvz hbw12
            go_wp2_with fail
            refine hal3.mono ?_
            rintro e w13 ⟨rfl, hb13⟩
            have hbf := HB12.out.trans (hb13.mono HB12.out.size)
            go_wp2
            go_ret
            exact ⟨rfl, hbf⟩
          · have hdel := VecI.delete_in w.heap.size p1 r1' k _ 0 k (k : Int) w11 HVA11.out H1A.out (by omega) (by omega) (by omega) (by omega) (by omega)
            rw [hcb.1, hcb.2] at hdel
            clear hcb
            go_wp2_with fail
            refine hdel.mono ?_
            rintro e w12 ⟨db, dc, rfl, hd12, hv12, hf12⟩
            clear hdel
            have hb12 : Below w.heap.size w w12 := HB11.out.trans (hf12.below hsw11 (fun b hb => by rcases hb with rfl | hb; exact hla; exact (HLAR.out b hb).1))
            have hsm := same_any db mb k dc mc ms w12 (SrcV.ofOwn hd12 h1m) (hm.below hb12) (by omega)
            have HV12 := Lib.hid hv12
            have HB12 := Lib.hid hb12
            clear hd12 hv12 hf12 hb12
            go_wp2_with fail
            refine hsm.mono ?_
            rintro e w13 ⟨rfl, hb13⟩
            have hbw13 := HB12.out.trans (hb13.mono HB12.out.size)
            have hv13 := HV12.out.fr (Fr.ofBelow hb13 (fun _ => False)) (by simp) (by simp)
            rw [Nat.sub_self] at hv13
            have hal3 := VecI.all_any w.heap.size p1 r1' 0 ([] : List Int) (some ea) 0 w13 hv13 (by omega) (hl.below hbw13)
            have HB13 := Lib.hid hbw13
            clear hsm hb13 hv13 hbw13
            go_wp2_with fail
            refine hal3.mono ?_
            rintro e w14 ⟨rfl, hb14⟩
            have hbf := HB13.out.trans (hb14.mono HB13.out.size)
            go_wp2
            go_ret
            exact ⟨rfl, hbf⟩
      · simp only [Value.slice.injEq] at hx
        have hxa := hx.1
        have hxc := hx.2.2
        clear hx
        subst hxa
        subst hxc
        have hlc2 : lc ≤ 9223372036854775807 := by simpa [maxLen] using hlc2
        have hlt6 := hl6.take hq
        obtain ⟨A, hA, hld6⟩ := hl6.drop hq
        have HLT : Hid (0 < n - q → ∀ j, blk (.slice (some A) (n - q) (lc - q)) = some j → ¬ wr.heap.size ≤ j) := fun hkq j hj h => by
          have hb : lab = j := by
            by_cases hck : lc = q
            · rw [if_pos hck] at hA; injection hA with hA; subst hA; simpa [blk] using hj
            · rw [if_neg hck] at hA; injection hA with hA; subst hA; simpa [blk] using hj
          subst hb
          have := hl.blkLt (by omega) lab rfl
          have := HBR.out.size
          omega
        have hqc : q ≤ lc := by omega
        clear hl6
        go_region_law (first
          | (refine step_append_srcv rfl (.const (.slice none 0 0)) (.tmp 56) 22 rfl wr.heap.size E i0 (.int .i64 0) 1 8 underS hi hz0 hz1 hz2 rfl (by decide) (.slice none 0 0) 0 [] (by first | (simp [Act.eval]; done) | simp [Act.eval, Act.put]) (World.ownsRow_nil wr.drew wr.heap.size E 1) (.slice (some ⟨lab, lao, none⟩) q lc) q ((zs.map (Value.int .i64)).take q) (by first | (simp [Act.eval]; done) | simp [Act.eval, Act.put]) hlt6 (by simp only [maxLen]; omega) (by omega) (Nat.le_refl _) ?_
             intro b7 c7 w7 h7 g7 n7
             have f7 : Fr (fun _ => False) wr.drew w7 := (Fr.refl _ _).grown g7 (by intro jj hk; simp [Value.ownBlock] at hk)
             have hm7 : SrcV w7 1 (.slice mb k mc) k (ms.map (.int .i64)) := hm6.fr f7 (by simp)
             have hs7 := f7.size
             have F7 := Lib.hid f7
             simp only [Nat.zero_add, List.nil_append] at h7
             clear g7 n7 f7)
          | (refine step_append_srcv rfl (.tmp 57) (.tmp 58) 22 rfl wr.heap.size E i0 (.int .i64 0) 1 8 underS hi hz0 hz1 hz2 rfl (by decide) (.slice b7 q c7) q ((zs.map (Value.int .i64)).take q) (by first | (simp [Act.eval]; done) | simp [Act.eval, Act.put]) h7 (.slice mb k mc) k (ms.map (.int .i64)) (by first | (simp [Act.eval]; done) | simp [Act.eval, Act.put]) hm7 (by simp only [maxLen]; omega) (by omega) hs7 ?_
             intro b8 c8 w8 h8 g8 n8
             have f8 : Fr (fun j => wr.heap.size ≤ j) w7 w8 := (Fr.refl _ _).grown g8 (by intro jj hk _; exact (h7.lt jj (by simpa [Act.eval] using hk)).1)
             have hd8 : SrcV w8 1 (.slice (some A) (n - q) (lc - q)) (n - q) ((zs.map (Value.int .i64)).drop q) := (hld6.fr F7.out (by simp)).fr f8 HLT.out
             have hs8 : wr.heap.size ≤ w8.heap.size := Nat.le_trans hs7 f8.size
             have F8 := Lib.hid f8
             clear g8 n8 f8)
          | (refine step_append_srcv rfl (.tmp 59) (.tmp 62) 22 rfl wr.heap.size E i0 (.int .i64 0) 1 8 underS hi hz0 hz1 hz2 rfl (by decide) (.slice b8 (q + k) c8) (q + k) ((zs.map (Value.int .i64)).take q ++ ms.map (.int .i64)) (by first | (simp [Act.eval]; done) | simp [Act.eval, Act.put]) h8 (.slice (some A) (n - q) (lc - q)) (n - q) ((zs.map (Value.int .i64)).drop q) (by first | (simp [Act.eval]; done) | simp [Act.eval, Act.put]) hd8 (by simp only [maxLen]; omega) (by omega) hs8 ?_
             intro wb wc w5 h9 g9 n9
             have f9 : Fr (fun j => wr.heap.size ≤ j) w8 w5 := (Fr.refl _ _).grown g9 (by intro jj hk _; exact (h8.lt jj (by simpa [Act.eval] using hk)).1)
             have F9 := Lib.hid f9
             rw [show q + k + (n - q) = n + k by omega] at h9
             rw [show q + k + (n - q) = n + k by omega]
             clear g9 n9 f9))
        have hf : Fr (fun j => wr.heap.size ≤ j) wr w5 := ((Fr.drew (Fr.refl _ wr)).trans (F7.out.mono (fun _ _ h => h.elim))).trans (F8.out.trans F9.out)
        have h1A : ∀ u ∈ (zs.map (Value.int .i64)).take q ++ ms.map (Value.int .i64) ++ (zs.map (Value.int .i64)).drop q, u.oneCell' = true := fun u hu => by
          simp only [List.mem_append] at hu
          rcases hu with (hu | hu) | hu
          · exact h1c u (List.mem_of_mem_take hu)
          · exact h1m u hu
          · exact h1c u (List.mem_of_mem_drop hu)
        have hbr5 := HBR.out.size
        have hb5 : Below w.heap.size w w5 := HBR.out.trans (hf.below (B := w.heap.size) hbr5 (fun j hj => Nat.le_trans hbr5 hj))
        have hva5 := hva.out.fr hf (by have := hva.out.lt; omega) (fun j hj => by have := hva.out.rowLt j hj; omega)
        have hvb5 := HVB.out.fr hf (by have := HVB.out.lt; omega) (fun j hj => by have := HVB.out.rowLt j hj; omega)
        have hw5 := SrcV.ofOwn h9 h1A
        have hAA : (zs.map (Value.int .i64)).take q ++ ms.map (Value.int .i64) ++ (zs.map (Value.int .i64)).drop q = (zs.take q ++ ms ++ zs.drop q).map (Value.int .i64) := by simp [List.map_take, List.map_drop]
        rw [hAA] at hw5
        have hva5' := hva5
        have hvb5' := hvb5
        rw [hAA] at hva5' hvb5'
        have hal1 := VecI.all_any w.heap.size p1 r1' (n + k) (zs.take q ++ ms ++ zs.drop q) wb wc w5 hva5' (by omega) hw5
        have HB5 := Lib.hid hb5
        have HVA := Lib.hid hva5
        have HVB5 := Lib.hid hvb5'
        have HW5 := Lib.hid hw5
        have H1A := Lib.hid h1A
        clear h9 h8 h7 hm7 hd8 hf hm6 hlt6 hld6 hva5 hvb5 hva5' hvb5' hw5 hAA h1A hb5
        go_wp2_with fail
        refine hal1.mono ?_
        rintro e w10 ⟨rfl, hb10⟩
        have hal2 := VecI.all_any w.heap.size p2 rb (n + k) (zs.take q ++ ms ++ zs.drop q) wb wc w10 (HVB5.out.fr (Fr.ofBelow hb10 (fun _ => False)) (by simp) (by simp)) (by omega) (HW5.out.below hb10)
        have HB10 := Lib.hid hb10
        clear hb10 hal1
        go_wp2_with fail
        refine hal2.mono ?_
        rintro e w11 ⟨rfl, hb11⟩
        have hb511 := HB10.out.trans (hb11.mono HB10.out.size)
        have hva11 := HVA.out.fr (Fr.ofBelow hb511 (fun _ => False)) (by simp) (by simp)
        have hbw11 := HB5.out.trans (hb511.mono HB5.out.size)
        have hsw11 := hbw11.size
        have HB11 := Lib.hid hbw11
        have HVA11 := Lib.hid hva11
        clear hal2 hb11 hb511 hva11 hbw11
        have hcb := cut_back (zs.map (Value.int .i64)) (ms.map (Value.int .i64)) q k (by have := HZL.out; simp; omega) (by have := HML.out; simpa using this)
        have hla := HVA11.out.lt.1
        have hlar := HVA11.out.rowLt
        have HLAR := Lib.hid hlar
        clear hlar
        by_cases hk0 : k = 0
        · subst hk0
          have hms : ms = [] := List.eq_nil_of_length_eq_zero HML.out
          subst hms
          have hdel := VecI.delete_none w.heap.size p1 r1' n _ (q : Nat) 0 w11 HVA11.out (.inr (by omega))
          go_wp2_with fail
          refine hdel.mono ?_
          rintro e w' ⟨rfl, rfl⟩
          clear hdel
          have hsm := same_any none mb 0 0 mc [] w11 (SrcV.nil _ 1) (hm.below HB11.out) (by omega)
          go_wp2_with fail
          refine hsm.mono ?_
          rintro e w12 ⟨rfl, hb12⟩
          have hvz := HVA11.out.fr (Fr.ofBelow hb12 (fun _ => False)) (by simp) (by simp)
          have e1 : (zs.map (Value.int .i64)).take q ++ ([] : List Int).map (Value.int .i64) ++ (zs.map (Value.int .i64)).drop q = (zs.map (Value.int .i64)) := by simp
          rw [e1] at hvz
          have hbw12 := HB11.out.trans (hb12.mono hsw11)
          have hal3 := VecI.all_any w.heap.size p1 r1' n zs (some ⟨lab, lao, none⟩) lc w12 hvz (by omega) (hl.below hbw12)
          have HB12 := Lib.hid hbw12
          clear hsm hb12 hvz hbw12
          go_wp2_with fail
          refine hal3.mono ?_
          rintro e w13 ⟨rfl, hb13⟩
          have hbf := HB12.out.trans (hb13.mono HB12.out.size)
          go_wp2
          go_ret
          exact ⟨rfl, hbf⟩
        · have hdel := VecI.delete_in w.heap.size p1 r1' (n + k) _ q k (k : Int) w11 HVA11.out H1A.out (by omega) (by omega) (by omega) (by omega) (by omega)
          rw [hcb.1, hcb.2] at hdel
          clear hcb
          go_wp2_with fail
          refine hdel.mono ?_
          rintro e w12 ⟨db, dc, rfl, hd12, hv12, hf12⟩
          clear hdel
          have hb12 : Below w.heap.size w w12 := HB11.out.trans (hf12.below hsw11 (fun b hb => by rcases hb with rfl | hb; exact hla; exact (HLAR.out b hb).1))
          have hsm := same_any db mb k dc mc ms w12 (SrcV.ofOwn hd12 h1m) (hm.below hb12) (by omega)
          have HV12 := Lib.hid hv12
          have HB12 := Lib.hid hb12
          clear hd12 hv12 hf12 hb12
          go_wp2_with fail
          refine hsm.mono ?_
          rintro e w13 ⟨rfl, hb13⟩
          have hbw13 := HB12.out.trans (hb13.mono HB12.out.size)
          have hv13 := HV12.out.fr (Fr.ofBelow hb13 (fun _ => False)) (by simp) (by simp)
          rw [show n + k - k = n by omega] at hv13
          have hal3 := VecI.all_any w.heap.size p1 r1' n zs (some ⟨lab, lao, none⟩) lc w13 hv13 (by omega) (hl.below hbw13)
          have HB13 := Lib.hid hbw13
          clear hsm hb13 hv13 hbw13
          go_wp2_with fail
          refine hal3.mono ?_
          rintro e w14 ⟨rfl, hb14⟩
          have hbf := HB13.out.trans (hb14.mono HB13.out.size)
          go_wp2
          go_ret
          exact ⟨rfl, hbf⟩

theorem walk (lb : Option Addr) (n lc : Nat) (zs : List Int) (a1 : Int) (mb : Option Addr) (m mc : Nat) (ms : List Int) (w : World) (hl : SrcV w 1 (.slice lb n lc) n (zs.map (.int .i64))) (hz : ∀ z ∈ zs, (Lit.int .i64 z).wf = true) (hw : (Lit.int .u8 a1).wf = true)
    (hm : SrcV w 1 (.slice mb m mc) m (ms.map (.int .i64))) (hzm : ∀ z ∈ ms, (Lit.int .i64 z).wf = true) :
    Calls Try.prog 6 #[.slice lb n lc, .int .u8 a1, .slice mb m mc] w fun e w' => e = .returned (.bool true) ∧ Below w.heap.size w w' := by
  have ha : 0 ≤ a1 ∧ a1 ≤ 255 := by simpa [Lit.wf, IntKind.min, IntKind.max, IntKind.signed, IntKind.bits] using hw
  by_cases h : 40 < n ∨ 40 < m
  · exact long lb n lc mb m mc a1 w (by have := hl.2.2.1; unfold maxLen at this; omega) (by have := hm.2.2.1; unfold maxLen at this; omega) h
  · have h1 : 0 ≤ a1 % ((n : Int) + 1) := Int.emod_nonneg _ (by omega)
    have h2 : a1 % ((n : Int) + 1) < (n : Int) + 1 := Int.emod_lt_of_pos _ (by omega)
    exact short lb n lc zs mb m mc ms a1 (a1 % ((n : Int) + 1)).toNat w hl hm (by omega) (by omega) ha.1 ha.2 (by omega) (by omega)

end Go.Proofs.Ytfijpjnadgdfcaa.Joins
