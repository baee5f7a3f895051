/-
  The laws' own split at line feeds.
-/
import Derived.Test.YtfllgmgipmmpkaaGreatDoorBh
set_option linter.unusedVariables false
set_option linter.unusedSimpArgs false
set_option maxRecDepth 100000
namespace Go.Proofs.YtfllgmgipmmpkaaGreatDoor.Tf
open Go Go.RowKit Go.Proofs.YtfllgmgipmmpkaaGreatDoor.Vk Go.Proofs.YtfllgmgipmmpkaaGreatDoor.Tm Go.Proofs.YtfllgmgipmmpkaaGreatDoor.Str
attribute [local go_sem] Oper.semAt_some

abbrev ES' : TypeId := 9
theorem infoS' : (Tryz.prog.info? ES').map (fun i => (i.zero, i.size, i.bytes)) = some (some (.string ⟨#[]⟩), 1, 16) := by kernel_rfl
theorem underS' : Tryz.prog.underlying 22 = some (.slice ES') := by kernel_rfl

/-- How far the splitting has come. -/
structure SpAt (s : ByteArray) (i f : Nat) (outs : List ByteArray) : Prop where
  cl : NoLf outs
  tx : jn outs = (s.data.toList ++ [10]).take f
  fi : f ≤ i
  no : ∀ q, ∀ hq : q < s.size, f ≤ q → q < i → s[q] ≠ 10
  fin : i = s.size + 1 → f = s.size + 1

theorem SpAt.start (s : ByteArray) : SpAt s 0 0 [] := ⟨fun s h => by simp at h, by simp [jn], Nat.le_refl _, fun q hq h1 h2 => by omega, fun h => by omega⟩
theorem SpAt.skip {s : ByteArray} {i f : Nat} {outs : List ByteArray} (h : SpAt s i f outs) (hi : i < s.size) (hn : s[i] ≠ 10) : SpAt s (i + 1) f outs :=
  ⟨h.cl, h.tx, by have := h.fi; omega, fun q hq h1 h2 => by
    by_cases he : q = i
    · subst he; exact hn
    · exact h.no q hq h1 (by omega), fun he => by omega⟩
theorem SpAt.cut {s : ByteArray} {i f : Nat} {outs : List ByteArray} (h : SpAt s i f outs) (hi : i ≤ s.size) (hn : i = s.size ∨ ∃ hq : i < s.size, s[i] = 10) : SpAt s (i + 1) (i + 1) (outs ++ [s.extract f i]) := by
  have hfi := h.fi
  have hex : (s.extract f i).data.toList = (s.data.toList.take i).drop f := ext_list s f i
  have hlen : s.data.toList.length = s.size := size_str s
  refine ⟨h.cl.append fun t ht => ?_, ?_, Nat.le_refl _, fun q hq h1 h2 => by omega, fun he => by omega⟩
  · rw [List.mem_singleton.1 ht, hex]
    intro hm
    obtain ⟨q, hq, he⟩ := List.getElem_of_mem hm
    simp only [List.length_drop, List.length_take, hlen] at hq
    rw [List.getElem_drop, List.getElem_take] at he
    exact h.no (f + q) (by omega) (by omega) (by omega) he
  · rw [jn_snoc, h.tx, hex]
    have h1 : (s.data.toList ++ [10]).take f = s.data.toList.take f := List.take_append_of_le_length (by omega)
    have h2 : s.data.toList.take f ++ (s.data.toList.take i).drop f = s.data.toList.take i := by
      have : (s.data.toList.take i).take f = s.data.toList.take f := by rw [List.take_take, Nat.min_eq_left hfi]
      rw [← this, List.take_append_drop]
    rw [h1, h2]
    rcases hn with rfl | ⟨hq, h10⟩
    · have e1 : (s.data.toList ++ [10]).take (s.size + 1) = s.data.toList ++ [10] := List.take_of_length_le (by rw [List.length_append, hlen]; exact Nat.le_refl _)
      have e2 : s.data.toList.take s.size = s.data.toList := List.take_of_length_le (by omega)
      rw [e1, e2]
    · rw [List.take_append_of_le_length (by omega), List.take_succ_eq_append_getElem (by omega)]
      have : s.data.toList[i]'(by omega) = 10 := h10
      rw [this]

def SpOut (s : ByteArray) (w : World) (e : Ending) (w' : World) : Prop := ∃ b k c ls, e = .returned (.slice b k c) ∧ Ss w' b k c ls ∧ NoLf ls ∧ ls ≠ [] ∧ jn ls = s.data.toList ++ [10] ∧ Below w.heap.size w w'

set_option maxHeartbeats 1000000 in
theorem lawSplit (s : ByteArray) (w : World) (hs : s.size ≤ 1000000) :
    Calls Tryz.prog 17 #[.string s] w fun e w' => SpOut s w e w' := by
  obtain ⟨i0, hi0, hz0, hz1, hz2⟩ := info_parts infoS'
  go_enter Tryz.func17, Tryz.ntmps17
  go_wp2
  go_loopw [3, 4, 5] (fun u3 u4 u5 wr => ∃ (i f k cc : Nat) (b : Option Addr) (outs : List ByteArray), u5 = .int .i64 i ∧ u4 = .int .i64 f ∧ u3 = .slice b k cc ∧ i ≤ s.size + 1 ∧ f ≤ i ∧ k ≤ i ∧ Hid (SpAt s i f outs ∧ wr.ownsRow w.heap.size ES' 1 (.slice b k cc) k (outs.map Value.string) ∧ Below w.heap.size w wr)) (fun _ _ u5 _ => s.size + 1 - (RowKit.intOf u5).toNat)
  case atStart => exact ⟨0, 0, 0, 0, none, [], rfl, rfl, rfl, by omega, by omega, by omega, SpAt.start s, World.ownsRow_nil w w.heap.size ES' 1, Below.refl _ w⟩
  case round =>
    obtain ⟨i, f, k, cc, b, outs, rfl, rfl, rfl, hi, hfi, hki, hh⟩ := hrel
    by_cases hin : i ≤ s.size
    · have hwi : IntKind.i64.wrap ((i : Int) + 1) = (i : Int) + 1 := by rw [IntKind.wrap_i64]; omega
      obtain ⟨V1, hV1⟩ : ∃ V1, V1 = (fun wr : World => wr.alloc (.cells #[.string (s.extract f i)] ES')) := ⟨_, rfl⟩
      have happ : i = s.size ∨ (∃ hq : i < s.size, s[i] = 10) → True := fun _ => trivial
      have hrow := ownsRow_fr hh.out.2.1 ((Fr.refl (fun _ => False) wr).alloc (.cells #[.string (s.extract f i)] ES')) (by simp)
      have hsrc := SrcV.lit wr #[.string (s.extract f i)] ES' 1 rfl (by simp [Value.oneCell']) (by simp [maxLen])
      have hlw : w.heap.size ≤ (wr.alloc (.cells #[.string (s.extract f i)] ES')).heap.size := by have := hh.out.2.2.size; simp; omega
      have HR := Lib.hid hrow
      have HS := Lib.hid hsrc
      have HL := Lib.hid hlw
      clear hrow hsrc hlw happ hV1
      by_cases hend : i = s.size
      · have hcc : ((i : Int) == (s.size : Int)) = true := by simp; omega
        have HE := Lib.hid hend
        clear hend
        go_wp2_with (at_builtin; go_must (refine append_srcv _ rfl _ _ 22 rfl w.heap.size ES' i0 (.string ⟨#[]⟩) 1 16 underS' hi0 hz0 hz1 hz2 rfl (by decide) _ k _ rfl HR.out _ 1 [.string (s.extract f i)] rfl HS.out (by simp only [maxLen]; omega) (by omega) HL.out ?_); intro b' c' w1 hown1 hg hnr)
        have HO := Lib.hid hown1
        have HG := Lib.hid hg
        clear hown1 hg hnr
        go_roundw
        case rel =>
          refine ⟨i + 1, i + 1, k + 1, c', b', outs ++ [s.extract f i], by go_num, by go_num, rfl, by omega, by omega, by omega, ⟨hh.out.1.cut hin (.inl HE.out), ?_, ?_⟩⟩
          · rw [List.map_append]; exact HO.out
          · have hgr : Below w.heap.size (wr.alloc (.cells #[.string (s.extract f i)] ES')) w1 := (Below.refl w.heap.size _).grown HG.out HL.out (fun g hgg => (HR.out.lt g hgg).1)
            exact (hh.out.2.2.alloc hh.out.2.2.size _).trans hgr
        case measure => simp [RowKit.intOf]; omega
      · have hilt : i < s.size := by omega
        have hcc : ((i : Int) == (s.size : Int)) = false := by simp; omega
        by_cases h10 : s[i] = 10
        · have hb := byte_eq hilt h10
          have H10 := Lib.hid h10
          clear h10 hend
          go_wp2_with (at_builtin; go_must (refine append_srcv _ rfl _ _ 22 rfl w.heap.size ES' i0 (.string ⟨#[]⟩) 1 16 underS' hi0 hz0 hz1 hz2 rfl (by decide) _ k _ rfl HR.out _ 1 [.string (s.extract f i)] rfl HS.out (by simp only [maxLen]; omega) (by omega) HL.out ?_); intro b' c' w1 hown1 hg hnr)
          have HO := Lib.hid hown1
          have HG := Lib.hid hg
          clear hown1 hg hnr
          go_roundw
          case rel =>
            refine ⟨i + 1, i + 1, k + 1, c', b', outs ++ [s.extract f i], by go_num, by go_num, rfl, by omega, by omega, by omega, ⟨hh.out.1.cut hin (.inr ⟨hilt, H10.out⟩), ?_, ?_⟩⟩
            · rw [List.map_append]; exact HO.out
            · have hgr : Below w.heap.size (wr.alloc (.cells #[.string (s.extract f i)] ES')) w1 := (Below.refl w.heap.size _).grown HG.out HL.out (fun g hgg => (HR.out.lt g hgg).1)
              exact (hh.out.2.2.alloc hh.out.2.2.size _).trans hgr
          case measure => simp [RowKit.intOf]; omega
        · have hb := byte_ne hilt h10
          have H10 := Lib.hid h10
          clear h10 hend
          go_wp2
          go_roundw
          case rel => exact ⟨i + 1, f, k, cc, b, outs, by go_num, rfl, rfl, by omega, by omega, by omega, hh.out.1.skip hilt H10.out, hh.out.2.1, hh.out.2.2⟩
          case measure => simp [RowKit.intOf]; omega
    · obtain rfl : i = s.size + 1 := by omega
      obtain ⟨hsp, hrow, hbl⟩ := hh.out
      have hff := hsp.fin rfl
      have hnot : ¬ ((s.size : Int) + 1 ≤ s.size) := by omega
      have HH := hh
      clear hh hrow hbl hsp
      go_wp2
      go_ret
      obtain ⟨hsp, hrow, hbl⟩ := HH.out
      subst hff
      have htx : jn outs = s.data.toList ++ [10] := by
        rw [hsp.tx]; exact List.take_of_length_le (by rw [List.length_append, size_str]; exact Nat.le_refl _)
      exact ⟨b, k, cc, outs, rfl, SrcV.ofOwn hrow (by simp [Value.oneCell']), hsp.cl, by rintro rfl; simp [jn] at htx, htx, hbl⟩

end Go.Proofs.YtfllgmgipmmpkaaGreatDoor.Tf
