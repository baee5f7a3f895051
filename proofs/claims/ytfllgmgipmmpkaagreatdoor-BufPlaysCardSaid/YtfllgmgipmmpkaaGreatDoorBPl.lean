/-
  The law BufPlays, walked.
-/
import Derived.Test.YtfllgmgipmmpkaaGreatDoorBNew
import Derived.Test.YtfllgmgipmmpkaaGreatDoorBActs
import Derived.Deep.RegionHeld3
set_option linter.unusedVariables false
set_option linter.unusedSimpArgs false
set_option maxRecDepth 100000
namespace Go.Proofs.YtfllgmgipmmpkaaGreatDoor.BPl
open Go Go.RowKit Go.Proofs.YtfllgmgipmmpkaaGreatDoor.Vk Go.Proofs.YtfllgmgipmmpkaaGreatDoor.Tm Go.Proofs.YtfllgmgipmmpkaaGreatDoor.Tf Go.Proofs.YtfllgmgipmmpkaaGreatDoor.Bf Go.Proofs.YtfllgmgipmmpkaaGreatDoor.Lm Go.Shelf Go.Proofs.YtfllgmgipmmpkaaGreatDoor.BEmp Go.Proofs.YtfllgmgipmmpkaaGreatDoor.BActs
attribute [local go_sem] Oper.semAt_some

/-- What stands in a round: the buffer, and the slice of its lines that the law keeps. -/
def Rel (w : World) (b : Nat) (b7 : Option Addr) (k7 c7 : Nat) (W : List ByteArray) (used : Nat) (wr : World) : Prop :=
  ∃ F e np, Buf wr w.heap.size b F W e np used ∧ Ss wr b7 k7 c7 W ∧ Below w.heap.size w wr ∧ ∀ j, blk (.slice b7 k7 c7) = some j → ¬ F j

theorem Rel.below {w : World} {b : Nat} {b7 : Option Addr} {k7 c7 : Nat} {W : List ByteArray} {used used' : Nat} {wr wx : World} (h : Rel w b b7 k7 c7 W used wr) (hb : Below wr.heap.size wr wx) : Rel w b b7 k7 c7 W used wx := by
  obtain ⟨F, e, np, h1, h2, h3, h4⟩ := h
  exact ⟨F, e, np, h1.below hb, SrcV.below h2 hb, h3.trans (hb.mono h3.size), h4⟩

theorem Rel.whole {w : World} {b : Nat} {b7 : Option Addr} {k7 c7 : Nat} {W : List ByteArray} {used : Nat} {wr : World} (h : Rel w b b7 k7 c7 W used wr) (hm : MaxOk w) (hu : used ≤ 400000) :
    Calls Tryz.prog 14 #[.pointer (some ⟨b, 0, none⟩), .slice b7 k7 c7] wr fun e w' => e = .returned (.bool true) ∧ Rel w b b7 k7 c7 W used w' := by
  obtain ⟨F, e, np, h1, h2, h3, h4⟩ := h
  refine (whole_any h1 (hm.below h3) hu _ _ _ h2).mono ?_
  rintro e' w' ⟨he, hb⟩
  exact ⟨he, Rel.below (used' := used) ⟨F, e, np, h1, h2, h3, h4⟩ hb⟩

theorem rep_len2 (W zs : List ByteArray) (i k : Nat) (h : i + k ≤ W.length) : (rep W i k zs).length = i + zs.length + (W.length - (i + k)) := by
  rw [rep_length W zs i k h]; omega
theorem rep_small (W zs : List ByteArray) (i k : Nat) (h : i + k ≤ W.length) (hW : (jn W).length ≤ 4096) (hz : (jn zs).length ≤ 3000) : (jn (rep W i k zs)).length ≤ 8000 := by
  have := rep_jn_len W zs i k h; omega
theorem bool_of {P : Prop} {q : Bool} (h : q = false → P) (hn : ¬ P) : q = true := by
  cases q
  · exact absurd (h rfl) hn
  · rfl
theorem bool_not {P : Prop} {q : Bool} (h : q = true → ¬ P) (hp : P) : q = false := by
  cases q
  · rfl
  · exact absurd hp (h rfl)

set_option maxHeartbeats 4000000 in
theorem walk (a : Option Addr) (n c : Nat) (ls : List ByteArray) (xa : Option Addr) (m mc : Nat) (acts : List ActD) (w : World) (hs : Ss w a n c ls) (hsb : ∀ s ∈ ls, s.size ≤ 140737488355328) (hsc : Script w xa m mc acts)
    (hab : ∀ x ∈ acts, ∀ s ∈ x.zs, s.size ≤ 140737488355328) (hm : MaxOk w) :
    Calls Tryz.prog 3 #[.slice a n c, .slice xa m mc] w fun e w' => e = .returned (.bool true) ∧ Below w.heap.size w w' := by
  obtain ⟨i0, hi0, hz0, hz1, hz2⟩ := info_parts infoS
  have hn63 : n ≤ 9223372036854775807 := by have := hs.2.2.1; unfold maxLen at this; omega
  have hm63 : m ≤ 9223372036854775807 := by have h1 := hsc.1; have h2 := hsc.2.1; unfold maxLen at h2; omega
  have hkn := known_any w hm
  have hlen := hs.length
  go_enter Tryz.func3, Tryz.ntmps3
  go_wp2_with fail
  refine hkn.mono ?_
  rintro e w1 ⟨rfl, hb1⟩
  have hlt := light_any a n c ls w1 (SrcV.below hs hb1) hn63 hsb
  have HB1 := Lib.hid hb1
  clear hkn
  go_wp2_with fail
  refine hlt.mono ?_
  rintro e w' ⟨q, rfl, rfl, hq⟩
  clear hlt
  cases q
  · go_wp2
    go_ret
    exact ⟨rfl, HB1.out⟩
  obtain ⟨hn40, hj, hcl⟩ := hq rfl
  clear hq hn63
  by_cases hm25 : 25 < m
  · go_wp2
    go_ret
    exact ⟨rfl, HB1.out⟩
  have hjl : (jn (lst ls)).length ≤ 1241 := by unfold lst; split; simp [jn]; omega
  have hnew := new_ok a n c ls w1 (SrcV.below hs hb1) (by omega) hcl (by omega)
  have HS := Lib.hid hs
  have HSC := Lib.hid hsc
  have hz01 := hb1.size
  clear hb1 hs hsc hm63
  go_wp2_with fail
  refine hnew.mono ?_
  rintro e w2 ⟨b, F, np, rfl, hbuf, hb2⟩
  have hb02 : Below w.heap.size w w2 := HB1.out.trans (hb2.mono hz01)
  have hz02 := hb02.size
  have hs2 : Ss w2 a n c ls := SrcV.below HS.out hb02
  have hlt2 := fun k hk => hbuf.lt (k := k) hk
  have HBUF := Lib.hid (hbuf.mono hz01)
  have HB2 := Lib.hid hb02
  clear hnew hbuf hb2 hb02
  go_upto_if 37 with (at_builtin; go_must (refine append_srcv _ rfl _ _ 22 rfl w2.heap.size ES i0 (.string ⟨#[]⟩) 1 16 underS hi0 hz0 hz1 hz2 rfl (by decide) _ 0 [] rfl (World.ownsRow_nil w2 w2.heap.size ES 1) _ n (ls.map .string) rfl hs2 (by simp only [maxLen]; omega) (by omega) (Nat.le_refl _) ?_); intro gb gc w3 hown hg hnr; clear hs2)
  simp only [Nat.zero_add, List.nil_append] at hown
  have hf3 : Fr (fun _ => False) w2 w3 := (Fr.refl _ w2).grown hg (by intro k hk; simp [Value.ownBlock, Act.eval] at hk)
  have hb23 : Below w2.heap.size w2 w3 := hf3.below (Nat.le_refl _) (by simp)
  have hb03 : Below w.heap.size w w3 := HB2.out.trans (hb23.mono hz02)
  have hz03 := hb03.size
  have HO := Lib.hid hown
  have HB23 := Lib.hid hb23
  have HB3 := Lib.hid hb03
  clear hg hnr hf3 hb23 hb03 hown
  go_cut [7] from 12 to 38 (fun s7 wx => ∃ b7 k7 c7, s7 = .slice b7 k7 c7 ∧ Hid (Rel w b b7 k7 c7 (lst ls) (jn (lst ls)).length wx))
  case first =>
    by_cases hn0 : n = 0
    · have hkz : (((0 + n : Nat) : Int) == 0) = true := by simp; omega
      have hkz2 : ((n : Int) == 0) = true := by simp; omega
      have HN0 := Lib.hid hn0
      clear hn0
      go_wp2
      go_meet
      case rel =>
        have hls : ls = [] := List.length_eq_zero_iff.1 (by have := HN0.out; omega)
        refine ⟨some ⟨w3.heap.size, 0, none⟩, 1, 1, rfl, ?_⟩
        refine ⟨F, 0, np, HBUF.out.below (HB23.out.trans (((Below.refl _ w3).alloc (Nat.le_refl _) _).mono (by have := HB23.out.size; omega))), ?_, HB3.out.alloc hz03 _, fun j hj hF => ?_⟩
        · rw [hls]; exact ss_lit w3 [⟨#[]⟩] ES 1 rfl (by omega)
        · simp [blk] at hj; have := (hlt2 j hF).2; have := HB23.out.size; omega
    · have hkz : ((n : Int) == 0) = false := by simp; omega
      have HN0 := Lib.hid hn0
      clear hn0
      go_wp2
      go_meet
      case rel =>
        have hne : ls ≠ [] := by rintro rfl; have := HN0.out; simp at hlen; omega
        rw [lst_id hne]
        have hbuf := HBUF.out
        rw [lst_id hne] at hbuf
        refine ⟨gb, n, gc, rfl, F, 0, np, hbuf.below HB23.out, SrcV.ofOwn HO.out (one_cells ls), HB3.out, fun j hj hF => ?_⟩
        have h1 := HO.out.lt j (by cases gb with
          | none => simp [blk] at hj
          | some g => simpa [blk, Value.ownBlock] using hj)
        have := (hlt2 j hF).2
        omega
  case rest =>
    obtain ⟨b7, k7, c7, rfl, hrel0⟩ := hcut
    clear HO HB23 HB3 HBUF hlt2
    go_wp2_with fail
    go_loopw [7, 8] (fun u7 u8 wr => ∃ (j k7 c7 used : Nat) (b7 : Option Addr) (W : List ByteArray), j ≤ m ∧ u8 = .int .i64 j ∧ u7 = .slice b7 k7 c7 ∧ used ≤ 1300 + 3010 * j ∧ Hid (Rel w b b7 k7 c7 W used wr)) (fun _ u8 _ => m - (RowKit.intOf u8).toNat)
    case atStart => exact ⟨0, k7, c7, _, b7, lst ls, Nat.zero_le _, rfl, rfl, by omega, hrel0⟩
    case round =>
      obtain ⟨j, k7, c7, used, b7, W, hjm, rfl, rfl, hus, hR⟩ := hrel
      by_cases hjl : j < m
      · obtain ⟨hmc, hcm, hll, hel⟩ := HSC.out
        have hkl : j < acts.length := by omega
        obtain ⟨hfit, sb, so, rfl, hcs⟩ := hel j _ (List.getElem?_eq_getElem hkl)
        have hab1 := hab _ (List.getElem_mem hkl)
        generalize acts[j] = act at hfit hcs hab1
        obtain ⟨at_, num, la, ln, lc, zs⟩ := act
        have hbel : Below w.heap.size w wr := by obtain ⟨_, _, _, _, _, h, _⟩ := hR.out; exact h
        have hF := Fr.ofBelow hbel (fun _ => False)
        have f0 : wr.cell? ⟨sb, so + j * 3, none⟩ = some (.int .i64 at_) := hF.cell (hcs 0 _ rfl) (by simp)
        have f1 : wr.cell? ⟨sb, so + j * 3 + 1, none⟩ = some (.int .i64 num) := hF.cell (hcs 1 _ rfl) (by simp)
        have f2 : wr.cell? ⟨sb, so + j * 3 + 2, none⟩ = some (.slice la ln lc) := hF.cell (hcs 2 _ rfl) (by simp)
        have hk0 : (0 : Int) ≤ (j : Int) := by omega
        have hk1 : (j : Int) < (m : Int) := by omega
        have hmc0 : m ≤ mc := hmc
        obtain ⟨wf1, wf2, hL0⟩ := hfit
        dsimp only at wf1 wf2 hL0 hab1
        have wa : -9223372036854775808 ≤ at_ ∧ at_ ≤ 9223372036854775807 := by simpa [Lit.wf, IntKind.min, IntKind.max, IntKind.signed, IntKind.bits] using wf1
        have wn : -9223372036854775808 ≤ num ∧ num ≤ 9223372036854775807 := by simpa [Lit.wf, IntKind.min, IntKind.max, IntKind.signed, IntKind.bits] using wf2
        have hln63 : ln ≤ 9223372036854775807 := by have := hL0.2.2.1; unfold maxLen at this; omega
        have hlz := Ss.length hL0
        have hsz := hbel.size
        have HBEL := Lib.hid hbel
        have HL0 := Lib.hid hL0
        have HLZ := Lib.hid hlz
        clear hel hcs hF hmc hcm hll hkl wf1 wf2 hL0 hbel
        by_cases h20 : 20 < ln
        · go_wp2_with fail
          go_ret
          exact ⟨rfl, HBEL.out.alloc hsz _⟩
        · obtain ⟨w0, hw0⟩ : ∃ w0, w0 = wr.alloc (.cells #[.int .i64 at_, .int .i64 num, .slice la ln lc] 31) := ⟨_, rfl⟩
          have hbr0 : Below wr.heap.size wr w0 := by rw [hw0]; exact (Below.refl _ wr).alloc (Nat.le_refl _) _
          have hzr0 : w0.heap.size = wr.heap.size + 1 := by rw [hw0]; simp
          have hb00 : Below w.heap.size w w0 := HBEL.out.trans (hbr0.mono hsz)
          have hjb := jn_bound zs hab1
          have hsz5 := size5_any la ln lc zs w0 (SrcV.below HL0.out hb00) (by omega) (by omega)
          have hbk := broken_any la ln lc zs w0 (SrcV.below HL0.out hb00) (by omega) hab1
          have hrow0 : w0.heap[wr.heap.size]? = some (.cells #[.int .i64 at_, .int .i64 num, .slice la ln lc] 31 (0, 0)) := by rw [hw0]; exact World.alloc_heap_new wr _
          have e0 : w0.cell? ⟨wr.heap.size, 0, none⟩ = some (.int .i64 at_) := (cell_of_row w0 _ 0 _ _ _ hrow0).trans (by simp)
          have e1 : w0.cell? ⟨wr.heap.size, 1, none⟩ = some (.int .i64 num) := (cell_of_row w0 _ 1 _ _ _ hrow0).trans (by simp)
          have e2 : w0.cell? ⟨wr.heap.size, 2, none⟩ = some (.slice la ln lc) := (cell_of_row w0 _ 2 _ _ _ hrow0).trans (by simp)
          have hlA : Ss w0.drew la ln lc zs := SrcV.below HL0.out hb00.drew
          have HR0 := Lib.hid (Rel.below (used' := used) hR.out hbr0)
          have HB00 := Lib.hid hb00
          have HW0 := Lib.hid hw0
          clear hrow0 hbr0 hb00
          rw [hw0] at hsz5
          clear hw0
          go_wp2_with fail
          refine hsz5.mono ?_
          rintro e w' ⟨rfl, rfl⟩
          rw [← HW0.out]
          clear hsz5 f0 f1 f2
          by_cases h30 : 3000 < (jn zs).length
          · go_wp2
            go_ret
            exact ⟨rfl, HB00.out⟩
          obtain ⟨F1, ed1, np1, hbf, hs7, hb7, hdj⟩ := HR0.out
          have hWl := hs7.length
          subst hWl
          have hWf := hbf.facts
          have hWg := jn_len_ge W
          have hW0 : 0 < W.length := List.length_pos_iff.2 hWf.2.2.1
          obtain ⟨q0, hq0⟩ : ∃ q0 : Bool, (q0 = true → ¬ (Has W at_ num ∧ NoLf zs)) ∧ (q0 = false → Has W at_ num ∧ NoLf zs) := by
            by_cases h : Has W at_ num ∧ NoLf zs
            · exact ⟨false, by simp, fun _ => h⟩
            · exact ⟨true, fun _ => h, by simp⟩
          have HQ0 := Lib.hid hq0
          clear hq0
          go_upto_region 19 with fail
          go_cut [88] from 59 to 87 (fun c88 wx => c88 = .bool q0 ∧ wx = w0)
          case first =>
            by_cases g1 : at_ < 0
            · have hq : q0 = true := bool_of HQ0.out.2 (by intro h; have := h.1.1; omega)
              go_wp2
              go_meet
              case rel => exact ⟨by rw [hq], rfl⟩
            by_cases g2 : num < 0
            · have hq : q0 = true := bool_of HQ0.out.2 (by intro h; have := h.1.2.2.1; omega)
              go_wp2
              go_meet
              case rel => exact ⟨by rw [hq], rfl⟩
            by_cases g3 : (W.length : Int) < at_
            · have hq : q0 = true := bool_of HQ0.out.2 (by intro h; have := h.1.2.1; omega)
              go_wp2
              go_meet
              case rel => exact ⟨by rw [hq], rfl⟩
            have hw_1 : IntKind.i64.wrap ((W.length : Int) - at_) = (W.length : Int) - at_ := by rw [IntKind.wrap_i64]; omega
            by_cases g4 : (W.length : Int) - at_ < num
            · have hq : q0 = true := bool_of HQ0.out.2 (by intro h; have := h.1.2.2.2; omega)
              go_wp2
              go_meet
              case rel => exact ⟨by rw [hq], rfl⟩
            go_wp2_with fail
            refine hbk.mono ?_
            rintro e w' ⟨q, rfl, rfl, hq1, hq2⟩
            have hq : q0 = q := by
              cases q with
              | true => exact bool_of HQ0.out.2 (fun h => hq1 rfl h.2)
              | false => exact bool_not HQ0.out.1 ⟨⟨by omega, by omega, by omega, by omega⟩, hq2 rfl⟩
            subst hq
            clear hq1 hq2 hbk
            go_wp2
            go_meet
            case rel => exact ⟨rfl, rfl⟩
          case rest =>
            obtain ⟨rfl, hwc⟩ := hcut
            rw [hwc]
            clear hwc hbk
            cases q0 with
            | true =>
              have hbad : ¬ (Has W at_ num ∧ NoLf zs) := HQ0.out.1 rfl
              have hrep : Calls Tryz.prog 13 #[.pointer (some ⟨b, 0, none⟩), .int .i64 at_, .int .i64 num, .slice la ln lc] w0 fun e w' => e = .returned (.int .i64 20) ∧ Below w0.heap.size w0 w' := by
                by_cases hh : Has W at_ num
                · obtain ⟨i, rfl⟩ : ∃ i : Nat, at_ = i := ⟨at_.toNat, by have := hh.1; omega⟩
                  obtain ⟨k, rfl⟩ : ∃ k : Nat, num = k := ⟨num.toNat, by have := hh.2.2.1; omega⟩
                  exact replace_broken hbf i k _ _ _ zs (SrcV.below HL0.out HB00.out) (by have := hh.2.2.2; have := hh.2.1; omega) (by omega) (fun h => hbad ⟨hh, h⟩)
                · exact (replace_place hbf at_ num _ hh).mono fun e w' h => ⟨h.1, h.2 ▸ Below.refl _ _⟩
              clear hbf hs7 hlA hbad
              go_wp2_with fail
              refine hrep.mono ?_
              rintro e w6 ⟨rfl, hb6⟩
              have hR6 := Rel.below (used' := used) HR0.out hb6
              have hwh := hR6.whole hm (by omega)
              clear hrep hb6 hR6
              go_wp2_with fail
              refine hwh.mono ?_
              rintro e w7 ⟨rfl, hR7⟩
              have HR7 := Lib.hid hR7
              clear hwh hR7
              go_wp2
              go_roundw
              case rel => exact ⟨j + 1, _, c7, used, _, W, by omega, by go_num, rfl, by omega, HR7.out⟩
              case measure => simp [RowKit.intOf]; omega
            | false =>
              obtain ⟨hh, hzc⟩ : Has W at_ num ∧ NoLf zs := HQ0.out.2 rfl
              obtain ⟨i, rfl⟩ : ∃ i : Nat, at_ = i := ⟨at_.toNat, by have := hh.1; omega⟩
              obtain ⟨k, rfl⟩ : ∃ k : Nat, num = k := ⟨num.toNat, by have := hh.2.2.1; omega⟩
              have hik : i + k ≤ W.length := by have h1 := hh.2.2.2; have h2 := hh.2.1; omega
              obtain ⟨mm, hmk⟩ : ∃ mm : Nat, mm = i + k := ⟨_, rfl⟩
              have hw_5 : IntKind.i64.wrap ((i : Int) + (k : Int)) = (mm : Int) := by rw [IntKind.wrap_i64]; omega
              have hs6 : Ss w0.drew b7 W.length c7 W := SrcV.below hs7 (Below.refl _ w0).drew
              obtain ⟨wb, wo, rfl, _, hnc, _⟩ := Ss.read hs6 0 hW0
              have hlt6 : SrcV w0.drew 1 (.slice (some ⟨wb, wo, none⟩) i c7) i ((W.map Value.string).take i) := hs6.take (by omega)
              obtain ⟨A, hA, hld6⟩ := SrcV.drop hs6 (k := mm) (by omega)
              have hdb : 0 < W.length - mm → ∀ j, blk (.slice (some A) (W.length - mm) (c7 - mm)) = some j → ¬ w0.heap.size ≤ j := fun h j hj => by
                have := hld6.blkLt (by omega) j hj
                have : w0.drew.heap.size = w0.heap.size := rfl
                omega
              have hcc : c7 ≤ 9223372036854775807 := by
                rcases hs6.2.2.2 with ⟨_, h, h0⟩ | ⟨_, _, _, h, h1, h2, _⟩
                · omega
                · simp only [Value.slice.injEq] at h; unfold maxLen at h2; omega
              have HDB := Lib.hid hdb
              have HLD := Lib.hid hld6
              have HLT := Lib.hid hlt6
              have HLA := Lib.hid hlA
              have HBF := Lib.hid hbf
              have HS7 := Lib.hid hs7
              have HDJ := Lib.hid hdj
              have HH := Lib.hid hh
              have hic : i ≤ c7 := by omega
              have hikc : mm ≤ W.length := by omega
              have hikc2 : mm ≤ c7 := by omega
              have hiW : i ≤ W.length := by omega
              have hrl := rep_length W zs i k hik
              have hrj := rep_jn_len W zs i k hik
              have HRJ := Lib.hid (And.intro hrl hrj)
              have HMK := Lib.hid hmk
              have HIK := Lib.hid hik
              clear hs6 hlt6 hld6 hdb hmk hlA hbf hs7 hdj hh hrl hrj hik
              go_wp2
              have hmx : Tryz.prog.follows .mixedOrders = true := by kernel_rfl
              have hS0 : w0.drew.cell? ⟨wr.heap.size, 0, none⟩ = some (.int .i64 (i : Int)) ∧ w0.drew.cell? ⟨wr.heap.size, 1, none⟩ = some (.int .i64 (k : Int)) ∧ w0.drew.cell? ⟨wr.heap.size, 2, none⟩ = some (.slice la ln lc) := ⟨e0, e1, e2⟩
              refine wp_region_held (S := fun w' => w'.cell? ⟨wr.heap.size, 0, none⟩ = some (.int .i64 (i : Int)) ∧ w'.cell? ⟨wr.heap.size, 1, none⟩ = some (.int .i64 (k : Int)) ∧ w'.cell? ⟨wr.heap.size, 2, none⟩ = some (.slice la ln lc)) hmx ?_
              refine wpAnyH_take (i := 0) (v := .slice (some ⟨wb, wo, none⟩) W.length c7) rfl (by kernel_rfl) (by kernel_rfl) (by kernel_rfl) (fun _ _ _ h => h) (Or.inl ⟨by rfl, fun w' hw => by obtain ⟨s0, s1, s2⟩ := hw; go_simp⟩) hS0 ?_
              try simp only [Act.put]
              refine wpAnyH_take (i := 1) (v := .pointer (some ⟨wr.heap.size, 0, none⟩)) rfl (by kernel_rfl) (by kernel_rfl) (by kernel_rfl) (fun _ _ _ h => h) (Or.inl ⟨by rfl, fun w' hw => by obtain ⟨s0, s1, s2⟩ := hw; go_simp⟩) hS0 ?_
              try simp only [Act.put]
              refine wpAnyH_take (i := 2) (v := .int .i64 (i : Int)) rfl (by kernel_rfl) (by kernel_rfl) (by kernel_rfl) (fun _ _ _ h => h) (Or.inl ⟨by rfl, fun w' hw => by obtain ⟨s0, s1, s2⟩ := hw; go_simp⟩) hS0 ?_
              try simp only [Act.put]
              refine wpAnyH_take (i := 3) (v := .slice (some ⟨wb, wo, none⟩) i c7) rfl (by kernel_rfl) (by kernel_rfl) (by kernel_rfl) (fun _ _ _ h => h) (Or.inl ⟨by rfl, fun w' hw => by obtain ⟨s0, s1, s2⟩ := hw; go_simp⟩) hS0 ?_
              try simp only [Act.put]
              refine wpAnyH_take (i := 5) (v := .pointer (some ⟨wr.heap.size, 2, none⟩)) rfl (by kernel_rfl) (by kernel_rfl) (by kernel_rfl) (fun _ _ _ h => h) (Or.inl ⟨by rfl, fun w' hw => by obtain ⟨s0, s1, s2⟩ := hw; go_simp⟩) hS0 ?_
              try simp only [Act.put]
              refine wpAnyH_take (i := 6) (v := .slice la ln lc) rfl (by kernel_rfl) (by kernel_rfl) (by kernel_rfl) (fun _ _ _ h => h) (Or.inl ⟨by rfl, fun w' hw => by obtain ⟨s0, s1, s2⟩ := hw; go_simp⟩) hS0 ?_
              try simp only [Act.put]
              refine wpAnyH_take (i := 8) (v := .slice (some ⟨wb, wo, none⟩) W.length c7) rfl (by kernel_rfl) (by kernel_rfl) (by kernel_rfl) (fun _ _ _ h => h) (Or.inl ⟨by rfl, fun w' hw => by obtain ⟨s0, s1, s2⟩ := hw; go_simp⟩) hS0 ?_
              try simp only [Act.put]
              refine wpAnyH_take (i := 9) (v := .pointer (some ⟨wr.heap.size, 0, none⟩)) rfl (by kernel_rfl) (by kernel_rfl) (by kernel_rfl) (fun _ _ _ h => h) (Or.inl ⟨by rfl, fun w' hw => by obtain ⟨s0, s1, s2⟩ := hw; go_simp⟩) hS0 ?_
              try simp only [Act.put]
              refine wpAnyH_take (i := 10) (v := .int .i64 (i : Int)) rfl (by kernel_rfl) (by kernel_rfl) (by kernel_rfl) (fun _ _ _ h => h) (Or.inl ⟨by rfl, fun w' hw => by obtain ⟨s0, s1, s2⟩ := hw; go_simp⟩) hS0 ?_
              try simp only [Act.put]
              refine wpAnyH_take (i := 11) (v := .pointer (some ⟨wr.heap.size, 1, none⟩)) rfl (by kernel_rfl) (by kernel_rfl) (by kernel_rfl) (fun _ _ _ h => h) (Or.inl ⟨by rfl, fun w' hw => by obtain ⟨s0, s1, s2⟩ := hw; go_simp⟩) hS0 ?_
              try simp only [Act.put]
              refine wpAnyH_take (i := 12) (v := .int .i64 (k : Int)) rfl (by kernel_rfl) (by kernel_rfl) (by kernel_rfl) (fun _ _ _ h => h) (Or.inl ⟨by rfl, fun w' hw => by obtain ⟨s0, s1, s2⟩ := hw; go_simp⟩) hS0 ?_
              try simp only [Act.put]
              refine wpAnyH_take (i := 13) (v := .int .i64 (mm : Int)) rfl (by kernel_rfl) (by kernel_rfl) (by kernel_rfl) (fun _ _ _ h => h) (Or.inl ⟨by rfl, fun w' hw => by obtain ⟨s0, s1, s2⟩ := hw; go_simp⟩) hS0 ?_
              try simp only [Act.put]
              refine wpAnyH_take (i := 14) (v := .slice (some A) (W.length - mm) (c7 - mm)) rfl (by kernel_rfl) (by kernel_rfl) (by kernel_rfl) (fun _ _ _ h => h) (Or.inl ⟨by rfl, fun w' hw => by obtain ⟨s0, s1, s2⟩ := hw; go_simp⟩) hS0 ?_
              try simp only [Act.put]
              refine wpAnyH_ready (rs := [4]) (by kernel_rfl) (by simp) ?_
              refine AllReadyH.cons rfl (fun K hK => ?_) AllReadyH.nil
              refine step_append_srcv rfl (.const (.slice none 0 0)) (.tmp 92) 22 rfl w0.heap.size ES i0 (.string ⟨#[]⟩) 1 16 underS hi0 hz0 hz1 hz2 rfl (by decide) (.slice none 0 0) (0) ([]) (by simp [Act.eval]) (World.ownsRow_nil w0.drew w0.heap.size ES 1) (.slice (some ⟨wb, wo, none⟩) i c7) (i) ((W.map Value.string).take i) (by simp [Act.eval]) HLT.out (by simp only [maxLen]; omega) (by omega) (Nat.le_refl _) ?_
              intro b7' c7' w7 h7 g7 n7
              have f7 : Fr (fun _ => False) w0.drew w7 := (Fr.refl _ _).grown g7 (by intro jj hk; simp [Value.ownBlock] at hk)
              have hm7 : SrcV w7 1 (.slice la ln lc) ln (zs.map .string) := HLA.out.fr f7 (by simp)
              have hs7' := f7.size
              have hS7 := And.intro (f7.cell e0 (by simp)) (And.intro (f7.cell e1 (by simp)) (f7.cell e2 (by simp)))
              have F7 := Lib.hid f7
              simp only [Nat.zero_add, List.nil_append] at h7 ⊢
              clear g7 n7 f7
              refine hK.out _ _ hS7 (fun _ => ?_)
              clear hK K
              try simp only [Act.put]
              refine wpAnyH_ready (rs := [7]) (by kernel_rfl) (by simp) ?_
              refine AllReadyH.cons rfl (fun K hK => ?_) AllReadyH.nil
              refine step_append_srcv rfl (.tmp 93) (.tmp 95) 22 rfl w0.heap.size ES i0 (.string ⟨#[]⟩) 1 16 underS hi0 hz0 hz1 hz2 rfl (by decide) (.slice b7' i c7') (i) ((W.map Value.string).take i) (by simp [Act.eval]) h7 (.slice la ln lc) (ln) (zs.map .string) (by simp [Act.eval]) hm7 (by simp only [maxLen]; omega) (by omega) hs7' ?_
              intro b8 c8 w8 h8 g8 n8
              have f8 : Fr (fun j => w0.heap.size ≤ j) w7 w8 := (Fr.refl _ _).grown g8 (by intro jj hk _; exact (h7.lt jj (by simpa [Act.eval] using hk)).1)
              have hd8 : SrcV w8 1 (.slice (some A) (W.length - mm) (c7 - mm)) (W.length - mm) ((W.map Value.string).drop mm) := (HLD.out.fr F7.out (by simp)).fr f8 HDB.out
              have hs8 : w0.heap.size ≤ w8.heap.size := Nat.le_trans hs7' f8.size
              have hS8 := And.intro (f8.cell hS7.1 (by simp; omega)) (And.intro (f8.cell hS7.2.1 (by simp; omega)) (f8.cell hS7.2.2 (by simp; omega)))
              have F8 := Lib.hid f8
              clear g8 n8 f8
              refine hK.out _ _ hS8 (fun _ => ?_)
              clear hK K
              try simp only [Act.put]
              refine wpAnyH_ready (rs := [15]) (by kernel_rfl) (by simp) ?_
              refine AllReadyH.cons rfl (fun K hK => ?_) AllReadyH.nil
              refine step_append_srcv rfl (.tmp 96) (.tmp 103) 22 rfl w0.heap.size ES i0 (.string ⟨#[]⟩) 1 16 underS hi0 hz0 hz1 hz2 rfl (by decide) (.slice b8 (i + ln) c8) (i + ln) ((W.map Value.string).take i ++ zs.map .string) (by simp [Act.eval]) h8 (.slice (some A) (W.length - mm) (c7 - mm)) (W.length - mm) ((W.map Value.string).drop mm) (by simp [Act.eval]) hd8 (by simp only [maxLen]; omega) (by omega) hs8 ?_
              intro nb nc w5 h9 g9 n9
              have f9 : Fr (fun j => w0.heap.size ≤ j) w8 w5 := (Fr.refl _ _).grown g9 (by intro jj hk _; exact (h8.lt jj (by simpa [Act.eval] using hk)).1)
              have hS9 := And.intro (f9.cell hS8.1 (by simp; omega)) (And.intro (f9.cell hS8.2.1 (by simp; omega)) (f9.cell hS8.2.2 (by simp; omega)))
              have F9 := Lib.hid f9
              have H9 := Lib.hid h9
              clear g9 n9 f9 h9
              refine hK.out _ _ hS9 (fun _ => ?_)
              clear hK K
              try simp only [Act.put]
              refine wpAnyH_take (i := 16) (v := .slice nb (i + ln + (W.length - mm)) nc) rfl (by kernel_rfl) (by kernel_rfl) (by kernel_rfl) (fun _ _ _ h => h) (Or.inl ⟨by rfl, fun w' hw => by obtain ⟨s0, s1, s2⟩ := hw; go_simp⟩) hS9 ?_
              try simp only [Act.put]
              refine wpAnyH_done (by kernel_rfl) ?_ _
              go_wp2_with fail
              obtain ⟨R, hR⟩ : ∃ R, R = rep W i k zs := ⟨_, rfl⟩
              obtain ⟨K, hK⟩ : ∃ K, K = i + ln + (W.length - mm) := ⟨_, rfl⟩
              have hRm : (W.map Value.string).take i ++ zs.map Value.string ++ (W.map Value.string).drop mm = R.map Value.string := by rw [hR, rep, HMK.out]; simp
              have hRl : R.length = K := by rw [hR, hK, ← HLZ.out, HMK.out]; exact rep_len2 W zs i k HIK.out
              have hRc : NoLf R := by rw [hR]; exact rep_clean i k hWf.2.1 hzc
              have hRj : (jn R).length ≤ 8000 := by rw [hR]; exact rep_small W zs i k HIK.out hWf.1 (Nat.le_of_not_lt h30)
              have hf5 : Fr (fun j => w0.heap.size ≤ j) w0 w5 := ((Fr.drew (Fr.refl _ w0)).trans (F7.out.mono (fun _ _ h => h.elim))).trans (F8.out.trans F9.out)
              have hb05 : Below w0.heap.size w0 w5 := hf5.below (Nat.le_refl _) (fun j hj => hj)
              have h9 := H9.out
              rw [hRm, ← hK] at h9
              have hs9 := SrcV.ofOwn h9 (one_cells R)
              have hng : ∀ g, blk (.slice nb K nc) = some g → w0.heap.size ≤ g ∧ g < w5.heap.size := fun g hg => h9.lt g (by
                cases nb with
                | none => simp [blk] at hg
                | some x => simpa [blk, Value.ownBlock] using hg)
              have hbw5 : Below w.heap.size w w5 := HB00.out.trans (hb05.mono HB00.out.size)
              have hz5 := hbw5.size
              have hz05 := hb05.size
              have hsz9 := size5_any nb K nc R w5 hs9 (by rw [← hRl]; have := jn_len_ge R; omega) (by omega)
              have HS9 := Lib.hid hs9
              have HNG := Lib.hid hng
              have HB05 := Lib.hid hb05
              have HBW5 := Lib.hid hbw5
              have HRL := Lib.hid (And.intro hR hRl)
              have HLa5 := Lib.hid (SrcV.below HL0.out hbw5)
              have HRC := Lib.hid hRc
              have hR5 := Lib.hid (Rel.below (used' := used) HR0.out hb05)
              have hjR := Lib.hid (nw_rep W zs i k HIK.out)
              rw [← hK]
              clear hRm hf5 h9 hs9 hng hb05 hbw5 hR hRl hRc hK H9 F7 F8 F9
              clear hS0 hS7 hS8 hd8 h7 h8 hm7
              obtain ⟨hc0, hc1, hc2⟩ := hS9
              go_wp2_with fail
              refine hsz9.mono ?_
              rintro e w' ⟨rfl, rfl⟩
              clear hsz9
              by_cases hbig : 4096 < (jn R).length
              · have hne : R ≠ [] := by rintro rfl; simp [jn] at hbig
                have hkz : ((K : Int) == 0) = false := by have := HRL.out.2; have h2 : 0 < R.length := List.length_pos_iff.2 hne; rw [beq_eq_false_iff_ne]; omega
                have hrep := replace_full (HBF.out.below HB05.out) i k la ln lc zs HLa5.out HIK.out (by omega) hzc (by omega) (by rw [← hjR.out, ← HRL.out.1, lst_id hne]; exact hbig)
                go_wp2_with fail
                refine hrep.mono ?_
                rintro e w6 ⟨rfl, hb6⟩
                have hR6 := Rel.below (used' := used) hR5.out hb6
                have hwh := hR6.whole hm (by omega)
                clear hrep hb6 hR6
                go_wp2_with fail
                refine hwh.mono ?_
                rintro e w7 ⟨rfl, hR7⟩
                have HR7 := Lib.hid hR7
                clear hwh hR7
                go_wp2
                go_roundw
                case rel => exact ⟨j + 1, _, c7, used, _, W, by omega, by go_num, rfl, by omega, HR7.out⟩
                case measure => simp [RowKit.intOf]; omega
              · have hne9 : (jn (lst R)).length ≤ 4096 := by unfold lst; split; simp [jn]; omega
                by_cases hK0 : K = 0
                · have hkz : ((K : Int) == 0) = true := by simp; omega
                  have hR0 : R = [] := List.length_eq_zero_iff.1 (by have := HRL.out.2; omega)
                  obtain ⟨W5, hW5⟩ : ∃ W5, W5 = w5.alloc (.cells #[.string ⟨#[]⟩] ES) := ⟨_, rfl⟩
                  have hb5 : Below w5.heap.size w5 W5 := by rw [hW5]; exact (Below.refl _ w5).alloc (Nat.le_refl _) _
                  have hx5 : Ss W5 (some ⟨w5.heap.size, 0, none⟩) 1 1 [⟨#[]⟩] := by rw [hW5]; exact ss_lit w5 [⟨#[]⟩] ES 1 rfl (by omega)
                  have hzz5 : W5.heap.size = w5.heap.size + 1 := by rw [hW5]; simp
                  have hb0W : Below w0.heap.size w0 W5 := HB05.out.trans (hb5.mono hz05)
                  have hrep := replace_ok (HBF.out.below hb0W) i k la ln lc zs (SrcV.below HLa5.out hb5) HIK.out (by omega) hzc (by rw [← hjR.out, ← HRL.out.1]; exact hne9) (by omega)
                  rw [← hjR.out, ← HRL.out.1, hR0, show lst [] = [⟨#[]⟩] from rfl] at hrep
                  have hbWW : Below w.heap.size w W5 := HBW5.out.trans (hb5.mono hz5)
                  have hlb := fun k hk => HBF.out.lt (k := k) hk
                  have HX5 := Lib.hid (And.intro hx5 (And.intro hbWW hb0W))
                  have HZ := Lib.hid hzz5
                  rw [hW5] at hrep
                  have HW5 := Lib.hid hW5
                  have HK0 := Lib.hid hK0
                  have d0 : wr.heap.size < w5.heap.size := by omega
                  clear hb5 hx5 hb0W hbWW hzz5 hW5 hK0
                  go_wp2_with fail
                  refine hrep.mono ?_
                  rintro e w6 ⟨rfl, F6, ed6, np6, hbuf6, hfr6, hn6⟩
                  rw [← HW5.out] at hfr6 hn6
                  have hR6 : Rel w b (some ⟨w5.heap.size, 0, none⟩) 1 1 [⟨#[]⟩] (used + (jn (nw W k zs)).length + 2) w6 := by
                    have hz6 := HZ.out
                    have hz0W := HX5.out.2.2.size
                    have hlx : ∀ x, F1 x → x < w0.heap.size := fun x hx => (hlb x hx).2
                    have hd5 : ¬ F1 w5.heap.size := fun h => by have := hlx _ h; omega
                    refine ⟨F6, ed6, np6, hbuf6, SrcV.fr HX5.out.1 hfr6 (fun _ g hg => by simp [blk] at hg; subst hg; exact hd5), HX5.out.2.1.trans (hfr6.below (B := w.heap.size) HX5.out.2.1.size (fun x hx => (hlb x hx).1)), fun g hg h6 => ?_⟩
                    simp [blk] at hg
                    subst hg
                    rcases hn6 _ h6 with h | h
                    · exact hd5 h
                    · omega
                  have hnwl : (jn (nw W k zs)).length ≤ 3001 := by
                    unfold nw; split
                    · unfold lst; split
                      · simp [jn]
                      · omega
                    · omega
                  have hwh := hR6.whole hm (by omega)
                  clear hrep hbuf6 hfr6 hn6 hR6
                  go_wp2_with fail
                  refine hwh.mono ?_
                  rintro e w7 ⟨rfl, hR7⟩
                  have HR7 := Lib.hid hR7
                  clear hwh hR7
                  go_wp2
                  go_roundw
                  case rel => exact ⟨j + 1, 1, 1, _, _, _, by omega, by go_num, rfl, by omega, HR7.out⟩
                  case measure => simp [RowKit.intOf]; omega
                · have hkz : ((K : Int) == 0) = false := by simp; omega
                  have hne : R ≠ [] := by rintro rfl; have := HRL.out.2; simp at this; omega
                  have hrep := replace_ok (HBF.out.below HB05.out) i k la ln lc zs HLa5.out HIK.out (by omega) hzc (by rw [← hjR.out, ← HRL.out.1]; exact hne9) (by omega)
                  rw [← hjR.out, ← HRL.out.1, lst_id hne] at hrep
                  have hlb := fun k hk => HBF.out.lt (k := k) hk
                  have HK0 := Lib.hid hK0
                  clear hK0
                  go_wp2_with fail
                  refine hrep.mono ?_
                  rintro e w6 ⟨rfl, F6, ed6, np6, hbuf6, hfr6, hn6⟩
                  have hR6 : Rel w b nb K nc R (used + (jn (nw W k zs)).length + 2) w6 := by
                    have hlx : ∀ x, F1 x → x < w0.heap.size := fun x hx => (hlb x hx).2
                    refine ⟨F6, ed6, np6, hbuf6, SrcV.fr HS9.out hfr6 (fun _ g hg hF => by have h1 := HNG.out g hg; have h2 := hlx g hF; omega), HBW5.out.trans (hfr6.below (B := w.heap.size) hz5 (fun x hx => (hlb x hx).1)), fun g hg h6 => ?_⟩
                    have h1 := HNG.out g hg
                    rcases hn6 _ h6 with h | h
                    · have h2 := hlx g h; omega
                    · omega
                  have hnwl : (jn (nw W k zs)).length ≤ 3001 := by
                    unfold nw; split
                    · unfold lst; split
                      · simp [jn]
                      · omega
                    · omega
                  have hwh := hR6.whole hm (by omega)
                  clear hrep hbuf6 hfr6 hn6 hR6
                  go_wp2_with fail
                  refine hwh.mono ?_
                  rintro e w7 ⟨rfl, hR7⟩
                  have HR7 := Lib.hid hR7
                  clear hwh hR7
                  go_wp2
                  go_roundw
                  case rel => exact ⟨j + 1, K, nc, _, _, _, by omega, by go_num, rfl, by omega, HR7.out⟩
                  case measure => simp [RowKit.intOf]; omega
      · obtain rfl : j = m := by omega
        have hwh := hR.out.whole hm (by omega)
        clear hR
        go_wp2_with fail
        refine hwh.mono ?_
        rintro e w7 ⟨rfl, hR7⟩
        have HR7 := Lib.hid hR7
        clear hwh hR7
        go_wp2
        go_ret
        obtain ⟨_, _, _, _, _, h, _⟩ := HR7.out
        exact ⟨rfl, h⟩
end Go.Proofs.YtfllgmgipmmpkaaGreatDoor.BPl
