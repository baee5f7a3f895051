/-
  The law VecTexts, walked.
-/
import Derived.Test.YtfijpjnadgdfcaaKnown
import Derived.Test.YtfijpjnadgdfcaaInsS
import Derived.LoopTactic
set_option linter.unusedVariables false
namespace Go.Proofs.Ytfijpjnadgdfcaa.Texts
open Go Go.RowKit Go.Proofs.Ytfijpjnadgdfcaa.Vk Go.Lib
open VecS (E infoE underS)

/-- Too long: true at once. -/
theorem long (lb : Option Addr) (n lc : Nat) (mb : Option Addr) (m mc : Nat) (at_ : Int) (w : World) (hl : n ≤ 9223372036854775807) (hm : m ≤ 9223372036854775807) (h : 50 < n ∨ 50 < m) :
    Calls Try.prog 4 #[.slice lb n lc, .int .i64 at_, .slice mb m mc] w fun e w' => e = .returned (.bool true) ∧ Below w.heap.size w w' := by
  by_cases h1 : 50 < n
  · clear h
    go_enter Try.func4, Try.ntmps4
    go_wp2_with (go_at_call 8; refine (VecI.known_any _).mono ?_; rintro e w1 ⟨rfl, hb⟩)
    go_ret
    exact ⟨rfl, hb⟩
  · have h2 : 50 < m := by omega
    clear h
    go_enter Try.func4, Try.ntmps4
    go_wp2_with (go_at_call 8; refine (VecI.known_any _).mono ?_; rintro e w1 ⟨rfl, hb⟩)
    go_ret
    exact ⟨rfl, hb⟩

/-- The place is none: nothing is inserted. -/
theorem out (lb : Option Addr) (n lc : Nat) (ls : List ByteArray) (mb : Option Addr) (m mc : Nat) (ms : List ByteArray) (at_ : Int) (w : World)
    (hl : SrcV w 1 (.slice lb n lc) n (ls.map .string)) (hm : SrcV w 1 (.slice mb m mc) m (ms.map .string)) (hn : n ≤ 50) (hm50 : m ≤ 50) (hat : ¬ (0 ≤ at_ ∧ at_ ≤ n)) :
    Calls Try.prog 4 #[.slice lb n lc, .int .i64 at_, .slice mb m mc] w fun e w' => e = .returned (.bool true) ∧ Below w.heap.size w w' := by
  obtain ⟨i0, hi, hz0, hz1, hz2⟩ := info_parts infoE
  go_enter Try.func4, Try.ntmps4
  go_wp2_with fail
  refine (VecI.known_any _).mono ?_
  rintro e w1 ⟨rfl, hb1⟩
  have hl1 : SrcV w1 1 (.slice lb n lc) n (ls.map .string) := hl.below hb1
  have hm1 : SrcV w1 1 (.slice mb m mc) m (ms.map .string) := hm.below hb1
  go_wp2_with (at_builtin; go_must (refine append_srcv _ rfl _ _ 37 rfl w1.heap.size E i0 (.string ⟨#[]⟩) 1 16 underS hi hz0 hz1 hz2 rfl (by decide) _ 0 [] rfl (World.ownsRow_nil w1 w1.heap.size E 1) _ n (ls.map .string) rfl hl1 (by simp only [maxLen]; omega) (by omega) (Nat.le_refl _) ?_); intro gb gc w2 hown hg hnr)
  simp only [Nat.zero_add, List.nil_append] at hown
  have hfr : Fr (fun _ => False) w1 w2 := (Fr.refl _ w1).grown hg (by intro k hk; simp [Value.ownBlock, Act.eval] at hk)
  clear hg hnr
  have hb2 := hb1.trans (hfr.below (B := w.heap.size) hb1.size (by simp))
  have h1s : ∀ u ∈ ls.map Value.string, u.oneCell' = true := by simp [Value.oneCell']
  go_wp2_with fail
  refine (VecS.new_any _ n _ w2 (SrcV.ofOwn hown h1s) (by omega)).mono ?_
  rintro e w3 ⟨p, r, rfl, hv, hb3⟩
  have hb3' := hb2.trans (hb3.mono hb2.size)
  have hg2 := hown.lt
  have hs2 := hb2.size
  have hs3 := hb3.size
  have hs1 := hb1.size
  have hown3 := ownsRow_fr hown (Fr.ofBelow hb3 (fun _ => False)) (by simp)
  have hp2 := hv.lt
  have hr2 := hv.rowLt
  have hd1 : decide (50 < (n : Int)) = false := by simp; omega
  have hd2 : decide (50 < (m : Int)) = false := by simp; omega
  have HV := Lib.hid hv
  have HB := Lib.hid hb3'
  have HO := Lib.hid hown3
  clear hv hb3 hb3' hown hown3 hfr hb2 hb1 hl1 hm1
  go_wp2_with fail
  go_loopw [9] (fun i wr => ∃ k : Nat, k ≤ n ∧ i = .int .i64 k ∧ Hid (IsVec wr w2.heap.size 57 E 1 p r n (ls.map .string)) ∧ Hid (Below w.heap.size w wr) ∧ Hid (∃ xs', wr.ownsRow w1.heap.size E 1 (.slice gb n gc) n xs')) (fun i _ => n - (RowKit.intOf i).toNat)
  case atStart => exact ⟨0, Nat.zero_le _, rfl, HV, HB, ⟨_, HO.out⟩⟩
  case round =>
    obtain ⟨k, hk, rfl, hvr, hbr, hor⟩ := hrel
    by_cases hkn : k < n
    · obtain ⟨xs', hxs⟩ := hor.out
      obtain ⟨g, rfl⟩ : ∃ g, gb = some ⟨g, 0, none⟩ := by
        rcases hxs.2 with ⟨h, h0⟩ | ⟨g, cap, cur, h, _⟩
        · omega
        · simp only [Value.slice.injEq] at h; exact ⟨g, h.1⟩
      have hgg := hg2 g rfl
      obtain ⟨old, hx⟩ : ∃ u, wr.cell? ⟨g, k, none⟩ = some u := ⟨_, (hxs.cellAt k (by omega)).trans (List.getElem?_eq_getElem (by have := hxs.1; omega))⟩
      have hf := hxs.frozenAt k
      have HX := Lib.hid hxs
      clear hxs
      go_wp2
      go_roundw
      case rel =>
        refine ⟨k + 1, by omega, by go_num, ?_, ?_, ?_⟩
        · exact hvr.out.fr (Fr.setCell (S := fun b => b = g) (Fr.refl _ _) (fun _ => rfl) _) (by omega) (fun j hj => by have := hr2 j hj; omega)
        · exact hbr.out.setCell (by show _ ≤ g; omega) _
        · exact ⟨_, (HX.out.stored k _).1⟩
      case measure => simp [RowKit.intOf]; omega
    · obtain rfl : k = n := by omega
      have hvr' := hvr.out
      have hbr' := hbr.out
      clear HV HB HO hor
      go_wp2_with fail
      refine (VecS.insert_out w2.heap.size p r k _ at_ _ wr hvr' hat).mono ?_
      rintro e w' ⟨rfl, rfl⟩
      have hlr : SrcV wr 1 (.slice lb k lc) k (ls.map .string) := hl.below hbr'
      have hsr := hbr'.size
      have hcase : Hid (at_ < 0 ∨ (0 ≤ at_ ∧ (k : Int) < at_)) := show _ ∨ _ by omega
      clear hat
      have fin : ∀ (wb : Option Addr) (wc : Nat) (w5 : World), w5.ownsRow wr.heap.size E 1 (.slice wb k wc) k (ls.map .string) → wr.grownBy w5 none → True := fun _ _ _ _ _ => trivial
      clear fin
      rcases hcase.out with hneg | ⟨hpos, hbig⟩
      all_goals
        clear hcase
        go_wp2_with (at_builtin; go_must (refine append_srcv _ rfl _ _ 37 rfl wr.heap.size E i0 (.string ⟨#[]⟩) 1 16 underS hi hz0 hz1 hz2 rfl (by decide) _ 0 [] rfl (World.ownsRow_nil wr wr.heap.size E 1) _ k (ls.map .string) rfl hlr (by simp only [maxLen]; omega) (by omega) (Nat.le_refl _) ?_); intro wb wc w5 hown5 hg5 hnr5; clear hlr)
        simp only [Nat.zero_add, List.nil_append] at hown5
        have hf5 : Fr (fun _ => False) wr w5 := (Fr.refl _ wr).grown hg5 (by intro k hk; simp [Value.ownBlock, Act.eval] at hk)
        have HW5 := Lib.hid hown5
        have HB5 : Hid (Below w.heap.size w w5) := hbr'.trans (hf5.below (B := w.heap.size) hsr (by simp))
        have HV5 := Lib.hid (hvr'.fr hf5 (by simp) (by simp))
        clear hown5 hg5 hnr5 hf5 hvr hvr' hbr hbr' h1s hp2 hr2 hg2
        -- TAIL | k | (k : Nat) | r | ls.map Value.string
        go_wp2_with fail
        refine (VecS.len_any w2.heap.size p r k _ w5 HV5.out).mono ?_
        rintro e w' ⟨rfl, rfl⟩
        go_wp2_with fail
        go_loop [12] (fun i => ∃ j : Nat, j ≤ k ∧ i = .int .i64 j) (fun i => k - (RowKit.intOf i).toNat)
        case atStart => exact ⟨0, Nat.zero_le _, rfl⟩
        case round =>
          obtain ⟨j, hj, rfl⟩ := hrel
          by_cases hjk : j < k
          · obtain ⟨st, hst⟩ : ∃ st, (ls.map Value.string)[j]? = some (.string st) := by
              have hlen : j < (ls.map Value.string).length := by have := HW5.out.1; omega
              exact all_str (by first | exact str_map _ | exact str_parts _ _ _) j hlen
            obtain ⟨gw, hgw⟩ : ∃ g, wb = some ⟨g, 0, none⟩ := by
              rcases HW5.out.2 with ⟨h, h0⟩ | ⟨g, cap, cur, h, _⟩
              · omega
              · simp only [Value.slice.injEq] at h; exact ⟨g, h.1⟩
            subst hgw
            have hcw : w5.cell? ⟨gw, j, none⟩ = some (.string st) := (HW5.out.cellAt j (by omega)).trans hst
            have hat' := VecS.at_in w2.heap.size p r k _ j st w5 HV5.out hjk (by omega) hst
            clear hst
            go_wp2_with fail
            refine hat'.mono ?_
            rintro e w' ⟨rfl, rfl⟩
            clear hat'
            go_wp2
            go_round
            case rel => exact ⟨j + 1, by omega, by go_num⟩
            case measure => simp [RowKit.intOf]; omega
          · have hao := VecS.at_out w2.heap.size p r k _ (k : Nat) w5 HV5.out (by omega)
            go_wp2_with fail
            refine hao.mono ?_
            rintro e w' ⟨rfl, rfl⟩
            go_wp2
            go_ret
            exact ⟨rfl, HB5.out⟩

set_option maxHeartbeats 2000000 in
/-- The place is one. -/
theorem in_ (lb : Option Addr) (n lc : Nat) (ls : List ByteArray) (mb : Option Addr) (m mc : Nat) (ms : List ByteArray) (q : Nat) (w : World)
    (hl : SrcV w 1 (.slice lb n lc) n (ls.map .string)) (hm : SrcV w 1 (.slice mb m mc) m (ms.map .string)) (hn : n ≤ 50) (hm50 : m ≤ 50) (hq : q ≤ n) :
    Calls Try.prog 4 #[.slice lb n lc, .int .i64 q, .slice mb m mc] w fun e w' => e = .returned (.bool true) ∧ Below w.heap.size w w' := by
  obtain ⟨i0, hi, hz0, hz1, hz2⟩ := info_parts infoE
  go_enter Try.func4, Try.ntmps4
  go_wp2_with fail
  refine (VecI.known_any _).mono ?_
  rintro e w1 ⟨rfl, hb1⟩
  have hl1 : SrcV w1 1 (.slice lb n lc) n (ls.map .string) := hl.below hb1
  have hm1 : SrcV w1 1 (.slice mb m mc) m (ms.map .string) := hm.below hb1
  go_wp2_with (at_builtin; go_must (refine append_srcv _ rfl _ _ 37 rfl w1.heap.size E i0 (.string ⟨#[]⟩) 1 16 underS hi hz0 hz1 hz2 rfl (by decide) _ 0 [] rfl (World.ownsRow_nil w1 w1.heap.size E 1) _ n (ls.map .string) rfl hl1 (by simp only [maxLen]; omega) (by omega) (Nat.le_refl _) ?_); intro gb gc w2 hown hg hnr)
  simp only [Nat.zero_add, List.nil_append] at hown
  have hfr : Fr (fun _ => False) w1 w2 := (Fr.refl _ w1).grown hg (by intro k hk; simp [Value.ownBlock, Act.eval] at hk)
  clear hg hnr
  have hb2 := hb1.trans (hfr.below (B := w.heap.size) hb1.size (by simp))
  have h1s : ∀ u ∈ ls.map Value.string, u.oneCell' = true := by simp [Value.oneCell']
  go_wp2_with fail
  refine (VecS.new_any _ n _ w2 (SrcV.ofOwn hown h1s) (by omega)).mono ?_
  rintro e w3 ⟨p, r, rfl, hv, hb3⟩
  have hb3' := hb2.trans (hb3.mono hb2.size)
  have hg2 := hown.lt
  have hs2 := hb2.size
  have hs3 := hb3.size
  have hs1 := hb1.size
  have hown3 := ownsRow_fr hown (Fr.ofBelow hb3 (fun _ => False)) (by simp)
  have hp2 := hv.lt
  have hr2 := hv.rowLt
  have hd1 : decide (50 < (n : Int)) = false := by simp; omega
  have hd2 : decide (50 < (m : Int)) = false := by simp; omega
  have HV := Lib.hid hv
  have HB := Lib.hid hb3'
  have HO := Lib.hid hown3
  clear hv hb3 hb3' hown hown3 hfr hb2 hb1 hl1 hm1
  go_wp2_with fail
  go_loopw [9] (fun i wr => ∃ k : Nat, k ≤ n ∧ i = .int .i64 k ∧ Hid (IsVec wr w2.heap.size 57 E 1 p r n (ls.map .string)) ∧ Hid (Below w.heap.size w wr) ∧ Hid (∃ xs', wr.ownsRow w1.heap.size E 1 (.slice gb n gc) n xs')) (fun i _ => n - (RowKit.intOf i).toNat)
  case atStart => exact ⟨0, Nat.zero_le _, rfl, HV, HB, ⟨_, HO.out⟩⟩
  case round =>
    obtain ⟨k, hk, rfl, hvr, hbr, hor⟩ := hrel
    by_cases hkn : k < n
    · obtain ⟨xs', hxs⟩ := hor.out
      obtain ⟨g, rfl⟩ : ∃ g, gb = some ⟨g, 0, none⟩ := by
        rcases hxs.2 with ⟨h, h0⟩ | ⟨g, cap, cur, h, _⟩
        · omega
        · simp only [Value.slice.injEq] at h; exact ⟨g, h.1⟩
      have hgg := hg2 g rfl
      obtain ⟨old, hx⟩ : ∃ u, wr.cell? ⟨g, k, none⟩ = some u := ⟨_, (hxs.cellAt k (by omega)).trans (List.getElem?_eq_getElem (by have := hxs.1; omega))⟩
      have hf := hxs.frozenAt k
      have HX := Lib.hid hxs
      clear hxs
      go_wp2
      go_roundw
      case rel =>
        refine ⟨k + 1, by omega, by go_num, ?_, ?_, ?_⟩
        · exact hvr.out.fr (Fr.setCell (S := fun b => b = g) (Fr.refl _ _) (fun _ => rfl) _) (by omega) (fun j hj => by have := hr2 j hj; omega)
        · exact hbr.out.setCell (by show _ ≤ g; omega) _
        · exact ⟨_, (HX.out.stored k _).1⟩
      case measure => simp [RowKit.intOf]; omega
    · obtain rfl : k = n := by omega
      have hvr' := hvr.out
      have hbr' := hbr.out
      clear HV HB HO hor
      have hlr : SrcV wr 1 (.slice lb k lc) k (ls.map .string) := hl.below hbr'
      have hmr : SrcV wr 1 (.slice mb m mc) m (ms.map .string) := hm.below hbr'
      have hsr := hbr'.size
      have h1s : ∀ u ∈ ls.map Value.string, u.oneCell' = true := by simp [Value.oneCell']
      go_wp2_with fail
      refine (VecS.insert_in w2.heap.size p r k _ q _ m _ wr hvr' h1s hmr ?_ hq (by omega) (by omega)).mono ?_
      · intro h0 j hb hr
        have := hm.blkLt (by omega) j hb
        have := hr2 j hr
        omega
      rintro e w4 ⟨rfl, r4, hv4, hf4, hr4⟩
      have hb4 : Below w.heap.size w w4 := hbr'.trans (hf4.below (B := w.heap.size) hsr (by intro j hj; rcases hj with rfl | hj; omega; have := hr2 j hj; omega))
      have hl4 : SrcV w4 1 (.slice lb k lc) k (ls.map .string) := hl.below hb4
      have hs4 := hb4.size
      go_wp2_with (at_builtin; go_must (refine append_srcv _ rfl _ _ 37 rfl w4.heap.size E i0 (.string ⟨#[]⟩) 1 16 underS hi hz0 hz1 hz2 rfl (by decide) _ 0 [] rfl (World.ownsRow_nil w4 w4.heap.size E 1) _ k (ls.map .string) rfl hl4 (by simp only [maxLen]; omega) (by omega) (Nat.le_refl _) ?_); intro ob oc w6 hown6 hg6 hnr6)
      simp only [Nat.zero_add, List.nil_append] at hown6
      have hf6 : Fr (fun _ => False) w4 w6 := (Fr.refl _ w4).grown hg6 (by intro k hk; simp [Value.ownBlock, Act.eval] at hk)
      have hb6 := hb4.trans (hf6.below (B := w.heap.size) hs4 (by simp))
      have hv6 := hv4.fr hf6 (by simp) (by simp)
      have hl6 : SrcV w6.drew 1 (.slice lb k lc) k (ls.map .string) := hl.below hb6.drew
      have hm6 : SrcV w6.drew 1 (.slice mb m mc) m (ms.map .string) := hm.below hb6.drew
      clear hown6 hg6 hnr6 hf6 hv4 hf4 hr4
      rcases hl.2.2.2 with ⟨ao, hx, h0⟩ | ⟨lab, lao, c', hx, hlc1, hlc2, _⟩
      · simp only [Value.slice.injEq] at hx
        obtain ⟨rfl, rfl, rfl⟩ := hx
        cases lb with
        | none =>
          obtain rfl : q = 0 := by omega
          have hls : ls = [] := by have := hl.1; simpa using this
          subst hls
          rw [Nat.zero_add] at hv6
          have hlt6 : SrcV w6.drew 1 (.slice none 0 0) 0 ((([] : List ByteArray).map Value.string).take 0) := SrcV.nil _ 1
          have hld6 : SrcV w6.drew 1 (.slice none 0 0) (0 - 0) ((([] : List ByteArray).map Value.string).drop 0) := SrcV.nil _ 1
          have HLT : Hid (0 < 0 - 0 → ∀ j, blk (.slice none 0 0) = some j → ¬ w6.heap.size ≤ j) := fun h => by omega
          clear hl6
          go_region_law (first
            | (refine step_append_srcv rfl (.const (.slice none 0 0)) (.tmp 59) 37 rfl w6.heap.size E i0 (.string ⟨#[]⟩) 1 16 underS hi hz0 hz1 hz2 rfl (by decide) (.slice none 0 0) 0 [] (by first | (simp [Act.eval]; done) | simp [Act.eval, Act.put]) (World.ownsRow_nil w6.drew w6.heap.size E 1) (.slice none 0 0) 0 ((([] : List ByteArray).map Value.string).take 0) (by first | (simp [Act.eval]; done) | simp [Act.eval, Act.put]) hlt6 (by simp only [maxLen]; omega) (by omega) (Nat.le_refl _) ?_
               intro b7 c7 w7 h7 g7 n7
               have f7 : Fr (fun _ => False) w6.drew w7 := (Fr.refl _ _).grown g7 (by intro jj hk; simp [Value.ownBlock] at hk)
               have hm7 : SrcV w7 1 (.slice mb m mc) m (ms.map .string) := hm6.fr f7 (by simp)
               have hs7 := f7.size
               have F7 := Lib.hid f7
               simp only [Nat.zero_add, List.nil_append] at h7
               clear g7 n7 f7)
            | (refine step_append_srcv rfl (.tmp 60) (.tmp 61) 37 rfl w6.heap.size E i0 (.string ⟨#[]⟩) 1 16 underS hi hz0 hz1 hz2 rfl (by decide) (.slice b7 0 c7) 0 ((([] : List ByteArray).map Value.string).take 0) (by first | (simp [Act.eval]; done) | simp [Act.eval, Act.put]) h7 (.slice mb m mc) m (ms.map .string) (by first | (simp [Act.eval]; done) | simp [Act.eval, Act.put]) hm7 (by simp only [maxLen]; omega) (by omega) hs7 ?_
               intro b8 c8 w8 h8 g8 n8
               have f8 : Fr (fun j => w6.heap.size ≤ j) w7 w8 := (Fr.refl _ _).grown g8 (by intro jj hk _; exact (h7.lt jj (by simpa [Act.eval] using hk)).1)
               have hd8 : SrcV w8 1 (.slice none 0 0) (0 - 0) ((([] : List ByteArray).map Value.string).drop 0) := (hld6.fr F7.out (by simp)).fr f8 HLT.out
               have hs8 : w6.heap.size ≤ w8.heap.size := Nat.le_trans hs7 f8.size
               have F8 := Lib.hid f8
               clear g8 n8 f8)
            | (refine step_append_srcv rfl (.tmp 62) (.tmp 65) 37 rfl w6.heap.size E i0 (.string ⟨#[]⟩) 1 16 underS hi hz0 hz1 hz2 rfl (by decide) (.slice b8 (0 + m) c8) (0 + m) ((([] : List ByteArray).map Value.string).take 0 ++ ms.map .string) (by first | (simp [Act.eval]; done) | simp [Act.eval, Act.put]) h8 (.slice none 0 0) (0 - 0) ((([] : List ByteArray).map Value.string).drop 0) (by first | (simp [Act.eval]; done) | simp [Act.eval, Act.put]) hd8 (by simp only [maxLen]; omega) (by omega) hs8 ?_
               intro wb wc w5 h9 g9 n9
               have f9 : Fr (fun j => w6.heap.size ≤ j) w8 w5 := (Fr.refl _ _).grown g9 (by intro jj hk _; exact (h8.lt jj (by simpa [Act.eval] using hk)).1)
               have F9 := Lib.hid f9
               simp only [Nat.zero_add, Nat.sub_self, Nat.add_zero] at h9 ⊢
               clear g9 n9 f9))
          have hf : Fr (fun j => w6.heap.size ≤ j) w6 w5 := ((Fr.drew (Fr.refl _ w6)).trans (F7.out.mono (fun _ _ h => h.elim))).trans (F8.out.trans F9.out)
          have HW5 := Lib.hid h9
          have HB5 : Hid (Below w.heap.size w w5) := hb6.trans (hf.below (B := w.heap.size) hb6.size (fun j hj => Nat.le_trans hb6.size hj))
          have HV5 := Lib.hid (hv6.fr hf (by have := hv6.lt; omega) (fun j hj => by have := hv6.rowLt j hj; omega))
          clear h9 h8 h7 hm7 hd8 hf hv6 hb6 hl4 hmr hlr hvr hvr' hbr hbr' hp2 hr2 hg2 hm6 hlt6 hld6 hb4
          have hd3 : decide (50 < ((0 + m : Nat) : Int)) = decide (50 < ((0 + m : Nat) : Int)) := rfl
          clear hd3
          -- TAIL | m | (m : Int) | r4 | (([] : List ByteArray).map Value.string).take 0 ++ ms.map Value.string ++ (([] : List ByteArray).map Value.string).drop 0
          go_wp2_with fail
          refine (VecS.len_any w2.heap.size p r4 m _ w5 HV5.out).mono ?_
          rintro e w' ⟨rfl, rfl⟩
          go_wp2_with fail
          go_loop [12] (fun i => ∃ j : Nat, j ≤ m ∧ i = .int .i64 j) (fun i => m - (RowKit.intOf i).toNat)
          case atStart => exact ⟨0, Nat.zero_le _, rfl⟩
          case round =>
            obtain ⟨j, hj, rfl⟩ := hrel
            by_cases hjk : j < m
            · obtain ⟨st, hst⟩ : ∃ st, ((([] : List ByteArray).map Value.string).take 0 ++ ms.map Value.string ++ (([] : List ByteArray).map Value.string).drop 0)[j]? = some (.string st) := by
                have hlen : j < ((([] : List ByteArray).map Value.string).take 0 ++ ms.map Value.string ++ (([] : List ByteArray).map Value.string).drop 0).length := by have := HW5.out.1; omega
                exact all_str (by first | exact str_map _ | exact str_parts _ _ _) j hlen
              obtain ⟨gw, hgw⟩ : ∃ g, wb = some ⟨g, 0, none⟩ := by
                rcases HW5.out.2 with ⟨h, h0⟩ | ⟨g, cap, cur, h, _⟩
                · omega
                · simp only [Value.slice.injEq] at h; exact ⟨g, h.1⟩
              subst hgw
              have hcw : w5.cell? ⟨gw, j, none⟩ = some (.string st) := (HW5.out.cellAt j (by omega)).trans hst
              have hat' := VecS.at_in w2.heap.size p r4 m _ j st w5 HV5.out hjk (by omega) hst
              clear hst
              go_wp2_with fail
              refine hat'.mono ?_
              rintro e w' ⟨rfl, rfl⟩
              clear hat'
              go_wp2
              go_round
              case rel => exact ⟨j + 1, by omega, by go_num⟩
              case measure => simp [RowKit.intOf]; omega
            · have hao := VecS.at_out w2.heap.size p r4 m _ (m : Int) w5 HV5.out (by omega)
              go_wp2_with fail
              refine hao.mono ?_
              rintro e w' ⟨rfl, rfl⟩
              go_wp2
              go_ret
              exact ⟨rfl, HB5.out⟩
        | some ea =>
          obtain rfl : q = 0 := by omega
          have hls : ls = [] := by have := hl.1; simpa using this
          subst hls
          rw [Nat.zero_add] at hv6
          have hlt6 : SrcV w6.drew 1 (.slice (some ea) 0 0) 0 ((([] : List ByteArray).map Value.string).take 0) := ⟨by simp, by simp, by simp [maxLen], .inl ⟨_, rfl, rfl⟩⟩
          have hld6 : SrcV w6.drew 1 (.slice (some ea) 0 0) (0 - 0) ((([] : List ByteArray).map Value.string).drop 0) := ⟨by simp, by simp, by simp [maxLen], .inl ⟨_, rfl, rfl⟩⟩
          have HLT : Hid (0 < 0 - 0 → ∀ j, blk (.slice (some ea) 0 0) = some j → ¬ w6.heap.size ≤ j) := fun h => by omega
          clear hl6
          go_region_law (first
            | (refine step_append_srcv rfl (.const (.slice none 0 0)) (.tmp 59) 37 rfl w6.heap.size E i0 (.string ⟨#[]⟩) 1 16 underS hi hz0 hz1 hz2 rfl (by decide) (.slice none 0 0) 0 [] (by first | (simp [Act.eval]; done) | simp [Act.eval, Act.put]) (World.ownsRow_nil w6.drew w6.heap.size E 1) (.slice (some ea) 0 0) 0 ((([] : List ByteArray).map Value.string).take 0) (by first | (simp [Act.eval]; done) | simp [Act.eval, Act.put]) hlt6 (by simp only [maxLen]; omega) (by omega) (Nat.le_refl _) ?_
               intro b7 c7 w7 h7 g7 n7
               have f7 : Fr (fun _ => False) w6.drew w7 := (Fr.refl _ _).grown g7 (by intro jj hk; simp [Value.ownBlock] at hk)
               have hm7 : SrcV w7 1 (.slice mb m mc) m (ms.map .string) := hm6.fr f7 (by simp)
               have hs7 := f7.size
               have F7 := Lib.hid f7
               simp only [Nat.zero_add, List.nil_append] at h7
               clear g7 n7 f7)
            | (refine step_append_srcv rfl (.tmp 60) (.tmp 61) 37 rfl w6.heap.size E i0 (.string ⟨#[]⟩) 1 16 underS hi hz0 hz1 hz2 rfl (by decide) (.slice b7 0 c7) 0 ((([] : List ByteArray).map Value.string).take 0) (by first | (simp [Act.eval]; done) | simp [Act.eval, Act.put]) h7 (.slice mb m mc) m (ms.map .string) (by first | (simp [Act.eval]; done) | simp [Act.eval, Act.put]) hm7 (by simp only [maxLen]; omega) (by omega) hs7 ?_
               intro b8 c8 w8 h8 g8 n8
               have f8 : Fr (fun j => w6.heap.size ≤ j) w7 w8 := (Fr.refl _ _).grown g8 (by intro jj hk _; exact (h7.lt jj (by simpa [Act.eval] using hk)).1)
               have hd8 : SrcV w8 1 (.slice (some ea) 0 0) (0 - 0) ((([] : List ByteArray).map Value.string).drop 0) := (hld6.fr F7.out (by simp)).fr f8 HLT.out
               have hs8 : w6.heap.size ≤ w8.heap.size := Nat.le_trans hs7 f8.size
               have F8 := Lib.hid f8
               clear g8 n8 f8)
            | (refine step_append_srcv rfl (.tmp 62) (.tmp 65) 37 rfl w6.heap.size E i0 (.string ⟨#[]⟩) 1 16 underS hi hz0 hz1 hz2 rfl (by decide) (.slice b8 (0 + m) c8) (0 + m) ((([] : List ByteArray).map Value.string).take 0 ++ ms.map .string) (by first | (simp [Act.eval]; done) | simp [Act.eval, Act.put]) h8 (.slice (some ea) 0 0) (0 - 0) ((([] : List ByteArray).map Value.string).drop 0) (by first | (simp [Act.eval]; done) | simp [Act.eval, Act.put]) hd8 (by simp only [maxLen]; omega) (by omega) hs8 ?_
               intro wb wc w5 h9 g9 n9
               have f9 : Fr (fun j => w6.heap.size ≤ j) w8 w5 := (Fr.refl _ _).grown g9 (by intro jj hk _; exact (h8.lt jj (by simpa [Act.eval] using hk)).1)
               have F9 := Lib.hid f9
               simp only [Nat.zero_add, Nat.sub_self, Nat.add_zero] at h9 ⊢
               clear g9 n9 f9))
          have hf : Fr (fun j => w6.heap.size ≤ j) w6 w5 := ((Fr.drew (Fr.refl _ w6)).trans (F7.out.mono (fun _ _ h => h.elim))).trans (F8.out.trans F9.out)
          have HW5 := Lib.hid h9
          have HB5 : Hid (Below w.heap.size w w5) := hb6.trans (hf.below (B := w.heap.size) hb6.size (fun j hj => Nat.le_trans hb6.size hj))
          have HV5 := Lib.hid (hv6.fr hf (by have := hv6.lt; omega) (fun j hj => by have := hv6.rowLt j hj; omega))
          clear h9 h8 h7 hm7 hd8 hf hv6 hb6 hl4 hmr hlr hvr hvr' hbr hbr' hp2 hr2 hg2 hm6 hlt6 hld6 hb4
          have hd3 : decide (50 < ((0 + m : Nat) : Int)) = decide (50 < ((0 + m : Nat) : Int)) := rfl
          clear hd3
          -- TAIL | m | (m : Int) | r4 | (([] : List ByteArray).map Value.string).take 0 ++ ms.map Value.string ++ (([] : List ByteArray).map Value.string).drop 0
          go_wp2_with fail
          refine (VecS.len_any w2.heap.size p r4 m _ w5 HV5.out).mono ?_
          rintro e w' ⟨rfl, rfl⟩
          go_wp2_with fail
          go_loop [12] (fun i => ∃ j : Nat, j ≤ m ∧ i = .int .i64 j) (fun i => m - (RowKit.intOf i).toNat)
          case atStart => exact ⟨0, Nat.zero_le _, rfl⟩
          case round =>
            obtain ⟨j, hj, rfl⟩ := hrel
            by_cases hjk : j < m
            · obtain ⟨st, hst⟩ : ∃ st, ((([] : List ByteArray).map Value.string).take 0 ++ ms.map Value.string ++ (([] : List ByteArray).map Value.string).drop 0)[j]? = some (.string st) := by
                have hlen : j < ((([] : List ByteArray).map Value.string).take 0 ++ ms.map Value.string ++ (([] : List ByteArray).map Value.string).drop 0).length := by have := HW5.out.1; omega
                exact all_str (by first | exact str_map _ | exact str_parts _ _ _) j hlen
              obtain ⟨gw, hgw⟩ : ∃ g, wb = some ⟨g, 0, none⟩ := by
                rcases HW5.out.2 with ⟨h, h0⟩ | ⟨g, cap, cur, h, _⟩
                · omega
                · simp only [Value.slice.injEq] at h; exact ⟨g, h.1⟩
              subst hgw
              have hcw : w5.cell? ⟨gw, j, none⟩ = some (.string st) := (HW5.out.cellAt j (by omega)).trans hst
              have hat' := VecS.at_in w2.heap.size p r4 m _ j st w5 HV5.out hjk (by omega) hst
              clear hst
              go_wp2_with fail
              refine hat'.mono ?_
              rintro e w' ⟨rfl, rfl⟩
              clear hat'
              go_wp2
              go_round
              case rel => exact ⟨j + 1, by omega, by go_num⟩
              case measure => simp [RowKit.intOf]; omega
            · have hao := VecS.at_out w2.heap.size p r4 m _ (m : Int) w5 HV5.out (by omega)
              go_wp2_with fail
              refine hao.mono ?_
              rintro e w' ⟨rfl, rfl⟩
              go_wp2
              go_ret
              exact ⟨rfl, HB5.out⟩
      · simp only [Value.slice.injEq] at hx
        obtain ⟨rfl, _, rfl⟩ := hx
        have hlc2 : lc ≤ 9223372036854775807 := by simpa [maxLen] using hlc2
        have hlt6 := hl6.take hq
        obtain ⟨A, hA, hld6⟩ := hl6.drop hq
        have HLT : Hid (0 < k - q → ∀ j, blk (.slice (some A) (k - q) (lc - q)) = some j → ¬ w6.heap.size ≤ j) := fun hkq j hj h => by
          have hb : lab = j := by
            by_cases hck : lc = q
            · rw [if_pos hck] at hA; injection hA with hA; subst hA; simpa [blk] using hj
            · rw [if_neg hck] at hA; injection hA with hA; subst hA; simpa [blk] using hj
          subst hb
          have := hl.blkLt (by omega) lab rfl
          have := hb6.size
          omega
        have hqc : q ≤ lc := by omega
        clear hl6
        go_region_law (first
          | (refine step_append_srcv rfl (.const (.slice none 0 0)) (.tmp 59) 37 rfl w6.heap.size E i0 (.string ⟨#[]⟩) 1 16 underS hi hz0 hz1 hz2 rfl (by decide) (.slice none 0 0) 0 [] (by first | (simp [Act.eval]; done) | simp [Act.eval, Act.put]) (World.ownsRow_nil w6.drew w6.heap.size E 1) (.slice (some ⟨lab, lao, none⟩) q lc) q ((ls.map Value.string).take q) (by first | (simp [Act.eval]; done) | simp [Act.eval, Act.put]) hlt6 (by simp only [maxLen]; omega) (by omega) (Nat.le_refl _) ?_
             intro b7 c7 w7 h7 g7 n7
             have f7 : Fr (fun _ => False) w6.drew w7 := (Fr.refl _ _).grown g7 (by intro k hk; simp [Value.ownBlock] at hk)
             have hm7 : SrcV w7 1 (.slice mb m mc) m (ms.map .string) := hm6.fr f7 (by simp)
             have hs7 := f7.size
             have F7 := Lib.hid f7
             simp only [Nat.zero_add, List.nil_append] at h7
             clear g7 n7 f7)
          | (refine step_append_srcv rfl (.tmp 60) (.tmp 61) 37 rfl w6.heap.size E i0 (.string ⟨#[]⟩) 1 16 underS hi hz0 hz1 hz2 rfl (by decide) (.slice b7 q c7) q ((ls.map Value.string).take q) (by first | (simp [Act.eval]; done) | simp [Act.eval, Act.put]) h7 (.slice mb m mc) m (ms.map .string) (by first | (simp [Act.eval]; done) | simp [Act.eval, Act.put]) hm7 (by simp only [maxLen]; omega) (by omega) hs7 ?_
             intro b8 c8 w8 h8 g8 n8
             have f8 : Fr (fun j => w6.heap.size ≤ j) w7 w8 := (Fr.refl _ _).grown g8 (by intro k hk _; exact (h7.lt k (by simpa [Act.eval] using hk)).1)
             have hd8 : SrcV w8 1 (.slice (some A) (k - q) (lc - q)) (k - q) ((ls.map Value.string).drop q) := (hld6.fr F7.out (by simp)).fr f8 HLT.out
             have hs8 : w6.heap.size ≤ w8.heap.size := Nat.le_trans hs7 f8.size
             have F8 := Lib.hid f8
             clear g8 n8 f8)
          | (refine step_append_srcv rfl (.tmp 62) (.tmp 65) 37 rfl w6.heap.size E i0 (.string ⟨#[]⟩) 1 16 underS hi hz0 hz1 hz2 rfl (by decide) (.slice b8 (q + m) c8) (q + m) ((ls.map Value.string).take q ++ ms.map .string) (by first | (simp [Act.eval]; done) | simp [Act.eval, Act.put]) h8 (.slice (some A) (k - q) (lc - q)) (k - q) ((ls.map Value.string).drop q) (by first | (simp [Act.eval]; done) | simp [Act.eval, Act.put]) hd8 (by simp only [maxLen]; omega) (by omega) hs8 ?_
             intro wb wc w5 h9 g9 n9
             have f9 : Fr (fun j => w6.heap.size ≤ j) w8 w5 := (Fr.refl _ _).grown g9 (by intro k hk _; exact (h8.lt k (by simpa [Act.eval] using hk)).1)
             have F9 := Lib.hid f9
             rw [show q + m + (k - q) = k + m by omega] at h9
             rw [show q + m + (k - q) = k + m by omega]
             clear g9 n9 f9))
        have hf : Fr (fun j => w6.heap.size ≤ j) w6 w5 := ((Fr.drew (Fr.refl _ w6)).trans (F7.out.mono (fun _ _ h => h.elim))).trans (F8.out.trans F9.out)
        have HW5 := Lib.hid h9
        have HB5 : Hid (Below w.heap.size w w5) := hb6.trans (hf.below (B := w.heap.size) hb6.size (fun j hj => Nat.le_trans hb6.size hj))
        have HV5 := Lib.hid (hv6.fr hf (by have := hv6.lt; omega) (fun j hj => by have := hv6.rowLt j hj; omega))
        clear h9 h8 h7 hm7 hd8 hf hv6 hb6 hl4 hmr hlr hvr hvr' hbr hbr' hp2 hr2 hg2 hm6 hlt6 hld6 hb4
        have hd3 : decide (50 < ((k + m : Nat) : Int)) = decide (50 < ((k + m : Nat) : Int)) := rfl
        clear hd3
        -- TAIL | (k + m) | ((k + m : Nat) : Int) | r4 | (ls.map Value.string).take q ++ ms.map Value.string ++ (ls.map Value.string).drop q
        go_wp2_with fail
        refine (VecS.len_any w2.heap.size p r4 (k + m) _ w5 HV5.out).mono ?_
        rintro e w' ⟨rfl, rfl⟩
        go_wp2_with fail
        go_loop [12] (fun i => ∃ j : Nat, j ≤ (k + m) ∧ i = .int .i64 j) (fun i => (k + m) - (RowKit.intOf i).toNat)
        case atStart => exact ⟨0, Nat.zero_le _, rfl⟩
        case round =>
          obtain ⟨j, hj, rfl⟩ := hrel
          by_cases hjk : j < (k + m)
          · obtain ⟨st, hst⟩ : ∃ st, ((ls.map Value.string).take q ++ ms.map Value.string ++ (ls.map Value.string).drop q)[j]? = some (.string st) := by
              have hlen : j < ((ls.map Value.string).take q ++ ms.map Value.string ++ (ls.map Value.string).drop q).length := by have := HW5.out.1; omega
              exact all_str (by first | exact str_map _ | exact str_parts _ _ _) j hlen
            obtain ⟨gw, hgw⟩ : ∃ g, wb = some ⟨g, 0, none⟩ := by
              rcases HW5.out.2 with ⟨h, h0⟩ | ⟨g, cap, cur, h, _⟩
              · omega
              · simp only [Value.slice.injEq] at h; exact ⟨g, h.1⟩
            subst hgw
            have hcw : w5.cell? ⟨gw, j, none⟩ = some (.string st) := (HW5.out.cellAt j (by omega)).trans hst
            have hat' := VecS.at_in w2.heap.size p r4 (k + m) _ j st w5 HV5.out hjk (by omega) hst
            clear hst
            go_wp2_with fail
            refine hat'.mono ?_
            rintro e w' ⟨rfl, rfl⟩
            clear hat'
            go_wp2
            go_round
            case rel => exact ⟨j + 1, by omega, by go_num⟩
            case measure => simp [RowKit.intOf]; omega
          · have hao := VecS.at_out w2.heap.size p r4 (k + m) _ ((k + m : Nat) : Int) w5 HV5.out (by omega)
            go_wp2_with fail
            refine hao.mono ?_
            rintro e w' ⟨rfl, rfl⟩
            go_wp2
            go_ret
            exact ⟨rfl, HB5.out⟩

end Go.Proofs.Ytfijpjnadgdfcaa.Texts
