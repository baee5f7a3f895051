/-
  The law VecEnds, walked.
-/
import Derived.Test.YtfijpjnadgdfcaaAll
import Derived.Test.YtfijpjnadgdfcaaKnown
import Derived.LoopTactic
set_option linter.unusedVariables false
namespace Go.Proofs.Ytfijpjnadgdfcaa.Ends
open Go Go.RowKit Go.Proofs.Ytfijpjnadgdfcaa.Vk
open VecI (E infoE underS)

theorem long (lb : Option Addr) (n lc : Nat) (far : Int) (w : World) (hl : n ≤ 9223372036854775807) (h : 40 < n) :
    Calls Try.prog 7 #[.slice lb n lc, .int .i64 far] w fun e w' => e = .returned (.bool true) ∧ Below w.heap.size w w' := by
  go_enter Try.func7, Try.ntmps7
  go_wp2_with (go_at_call 8; refine (VecI.known_any _).mono ?_; rintro e w1 ⟨rfl, hb⟩)
  go_ret
  exact ⟨rfl, hb⟩

set_option maxHeartbeats 2000000 in
theorem short (lb : Option Addr) (n lc : Nat) (zs : List Int) (far : Int) (w : World) (hs : SrcV w 1 (.slice lb n lc) n (zs.map (.int .i64))) (hn : n ≤ 40) (hfar : -9223372036854775808 ≤ far ∧ far ≤ 9223372036854775807) :
    Calls Try.prog 7 #[.slice lb n lc, .int .i64 far] w fun e w' => e = .returned (.bool true) ∧ Below w.heap.size w w' := by
  have h1c : ∀ u ∈ zs.map (Value.int .i64), u.oneCell' = true := fun u hu => by obtain ⟨s, _, rfl⟩ := List.mem_map.1 hu; rfl
  have hd : decide (40 < (n : Int)) = false := by simp; omega
  go_enter Try.func7, Try.ntmps7
  go_wp2_with fail
  refine (VecI.known_any _).mono ?_
  rintro e w1 ⟨rfl, hb1⟩
  go_wp2_with fail
  refine (VecI.new_any _ n _ w1 (hs.below hb1) (by omega)).mono ?_
  rintro e w2 ⟨p, r, rfl, hv, hb2⟩
  have hb2 := hb1.trans (hb2.mono hb1.size)
  have hv := hv.mono hb1.size
  have hv3 := hv.fr ((Fr.refl (fun _ => False) _).alloc (.cells #[.int .i64 (-1), .int .i64 n, .int .i64 ((n : Int) + 1), .int .i64 far] 3)) (by simp) (by simp)
  have hb3 := hb2.alloc hb2.size (.cells #[.int .i64 (-1), .int .i64 n, .int .i64 ((n : Int) + 1), .int .i64 far] 3)
  have hc3 := heap_alloc_new w2 (.cells #[.int .i64 (-1), .int .i64 n, .int .i64 ((n : Int) + 1), .int .i64 far] 3)
  have hw2 := hb2.size
  have HV := Lib.hid hv3
  have HB := Lib.hid hb3
  have HC := Lib.hid hc3
  clear hv hv3 hb1 hb2 hb3 hc3
  go_wp2_with fail
  go_loopw [25] (fun i wr => ∃ k : Nat, k ≤ 4 ∧ i = .int .i64 k ∧ Hid (IsVec wr w.heap.size 52 E 1 p r n (zs.map (.int .i64))) ∧ Hid (Below w.heap.size w wr) ∧ Hid (wr.heap[w2.heap.size]? = some (.cells #[.int .i64 (-1), .int .i64 n, .int .i64 ((n : Int) + 1), .int .i64 far] 3 (0, 0)))) (fun i _ => 4 - (RowKit.intOf i).toNat)
  case atStart => exact ⟨0, by omega, rfl, HV, HB, HC⟩
  case round =>
    obtain ⟨k, hk, rfl, hv, hb, hc⟩ := hrel
    by_cases hk4 : k < 4
    · obtain ⟨e, he⟩ : ∃ e : Int, wr.cell? ⟨w2.heap.size, k, none⟩ = some (.int .i64 e) := by
        rw [cell_of_row wr _ k _ _ _ hc.out]
        rcases k with _ | _ | _ | _ | k
        · exact ⟨_, rfl⟩
        · exact ⟨_, rfl⟩
        · exact ⟨_, rfl⟩
        · exact ⟨_, rfl⟩
        · omega
      have hsz := hb.out.size
      have hbi := (Array.getElem?_eq_some_iff.1 hc.out).1
      by_cases hin : 0 ≤ e ∧ e < n
      · obtain ⟨h0, h1⟩ := hin
        go_wp2
        go_roundw
        case rel => exact ⟨k + 1, by omega, by go_num, hv, hb, hc⟩
        case measure => simp [RowKit.intOf]; omega
      · have hao := VecI.at_out w.heap.size p r n _ e wr hv.out hin
        have hso := VecI.set_out w.heap.size p r n _ e 5 wr hv.out hin
        have hdo := VecI.delete_none w.heap.size p r n _ e 3 wr hv.out (.inl hin)
        by_cases hen : e = n
        · subst hen
          have hnn : ((n : Int) != (n : Int)) = false := by simp
          clear hin
          go_wp2_with (first
            | (go_at_call 14; refine hao.mono ?_; rintro e w' ⟨rfl, rfl⟩)
            | (go_at_call 13; refine hso.mono ?_; rintro e w' ⟨rfl, rfl⟩)
            | (go_at_call 11; refine hdo.mono ?_; rintro e w' ⟨rfl, rfl⟩))
          clear hao hso hdo
          go_roundw
          case rel => exact ⟨k + 1, by omega, by go_num, hv, hb, hc⟩
          case measure => simp [RowKit.intOf]; omega
        · have hne : (e != (n : Int)) = true := by simpa using hen
          have hv4 := hv.out.fr ((Fr.refl (fun _ => False) _).alloc (.cells #[.int .i64 7] 3)) (by simp) (by simp)
          have hio := VecI.insert_out w.heap.size p r n _ e (.slice (some ⟨wr.heap.size, 0, none⟩) 1 1) _ hv4 (by omega)
          have hb4 := hb.out.alloc hsz (.cells #[.int .i64 7] 3)
          have hc4 := (Below.heap_alloc wr (.cells #[.int .i64 7] 3) _ hbi).trans hc.out
          have HV4 := Lib.hid hv4
          have HB4 := Lib.hid hb4
          have HC4 := Lib.hid hc4
          clear hv4 hb4 hc4
          rcases Int.lt_or_le e 0 with hneg | hpos
          · clear hin
            go_wp2_with (first
              | (go_at_call 14; refine hao.mono ?_; rintro e w' ⟨rfl, rfl⟩)
              | (go_at_call 13; refine hso.mono ?_; rintro e w' ⟨rfl, rfl⟩)
              | (go_at_call 11; refine hdo.mono ?_; rintro e w' ⟨rfl, rfl⟩)
              | (go_at_call 10; refine hio.mono ?_; rintro e w' ⟨rfl, rfl⟩))
            clear hao hso hdo hio
            go_roundw
            case rel => exact ⟨k + 1, by omega, by go_num, HV4, HB4, HC4⟩
            case measure => simp [RowKit.intOf]; omega
          · have hbig : (n : Int) < e := by omega
            clear hin
            go_wp2_with (first
              | (go_at_call 14; refine hao.mono ?_; rintro e w' ⟨rfl, rfl⟩)
              | (go_at_call 13; refine hso.mono ?_; rintro e w' ⟨rfl, rfl⟩)
              | (go_at_call 11; refine hdo.mono ?_; rintro e w' ⟨rfl, rfl⟩)
              | (go_at_call 10; refine hio.mono ?_; rintro e w' ⟨rfl, rfl⟩))
            clear hao hso hdo hio
            go_roundw
            case rel => exact ⟨k + 1, by omega, by go_num, HV4, HB4, HC4⟩
            case measure => simp [RowKit.intOf]; omega
    · have hb' := hb.out
      have hv' := hv.out
      have hsr : SrcV wr 1 (.slice lb n lc) n (zs.map (.int .i64)) := hs.below hb'
      have hal := VecI.all_any w.heap.size p r n zs lb lc wr hv' (by omega) hsr
      clear HV HB HC
      go_wp2_with fail
      refine hal.mono ?_
      rintro e w4 ⟨rfl, hb4⟩
      have hv4 := hv'.fr (Fr.ofBelow hb4 (fun _ => False)) (by simp) (by simp)
      have hb5 := hb'.trans (hb4.mono hb'.size)
      have hv5 := hv4.fr ((Fr.refl (fun _ => False) _).alloc (.cells #[.int .i64 9] 3)) (by simp) (by simp)
      have hb6 := hb5.alloc hb5.size (.cells #[.int .i64 9] 3)
      have hins := VecI.insert_in w.heap.size p r n _ n _ 1 [.int .i64 9] _ hv5 h1c (SrcV.lit w4 #[.int .i64 9] _ 1 rfl (by simp [Value.oneCell']) (by simp [maxLen])) (fun _ j hj hr => by simp [blk] at hj; have := (hv4.rowLt j hr).2; omega) (Nat.le_refl _) (by omega) (by omega)
      have hlt4 := hv4.lt.1
      have hlr := fun j hj => (hv4.rowLt j hj).1
      have HB6 := Lib.hid hb6
      have HLR := Lib.hid hlr
      clear hal hv' hv4 hv5 hb5 hb6 hb4 hb' hv hb hc hlr
      go_wp2_with fail
      refine hins.mono ?_
      rintro e w7 ⟨rfl, r7, hv7, hf7, _⟩
      have hle := VecI.len_any w.heap.size p r7 (n + 1) _ w7 hv7
      clear hins
      go_wp2_with fail
      refine hle.mono ?_
      rintro e w' ⟨rfl, rfl⟩
      clear hle
      go_wp2
      go_ret
      refine ⟨by simp, HB6.out.trans (hf7.below (B := w.heap.size) HB6.out.size (fun k hk => ?_))⟩
      rcases hk with rfl | hk
      · exact hlt4
      · exact HLR.out k hk

theorem walk (lb : Option Addr) (n lc : Nat) (zs : List Int) (far : Int) (w : World) (hs : SrcV w 1 (.slice lb n lc) n (zs.map (.int .i64))) (hz : ∀ z ∈ zs, (Lit.int .i64 z).wf = true) (hw : (Lit.int .i64 far).wf = true) :
    Calls Try.prog 7 #[.slice lb n lc, .int .i64 far] w fun e w' => e = .returned (.bool true) ∧ Below w.heap.size w w' := by
  by_cases h : 40 < n
  · exact long lb n lc far w (by have := hs.2.2.1; unfold maxLen at this; omega) h
  · exact short lb n lc zs far w hs (by omega) (by simpa [Lit.wf, IntKind.min, IntKind.max, IntKind.signed, IntKind.bits] using hw)

end Go.Proofs.Ytfijpjnadgdfcaa.Ends
