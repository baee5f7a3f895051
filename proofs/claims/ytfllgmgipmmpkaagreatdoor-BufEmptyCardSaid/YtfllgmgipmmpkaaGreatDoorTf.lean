/-
  Lines and their text: what the buffer's functions over lists of lines come to.
-/
import Derived.Test.YtfllgmgipmmpkaaGreatDoorSh
import Derived.Test.YtfllgmgipmmpkaaGreatDoorStr
import Derived.Test.YtfllgmgipmmpkaaGreatDoorTm
import Derived.Lib.IndexAny
import Derived.WalkLawsBesides
import Derived.WalkSpells
import Derived.Outline
import Derived.Lib.Hide
import Derived.LoopTactic
import Derived.Deep.DeepFit
import Derived.Deep.DeepMust
set_option linter.unusedVariables false
set_option linter.unusedSimpArgs false
set_option maxRecDepth 100000
namespace Go.Proofs.YtfllgmgipmmpkaaGreatDoor.Tf
open Go Go.RowKit Go.Proofs.YtfllgmgipmmpkaaGreatDoor.Vk Go.Proofs.YtfllgmgipmmpkaaGreatDoor.Tm Go.Proofs.YtfllgmgipmmpkaaGreatDoor.Str

def lf : ByteArray := ⟨#[10]⟩
/-- The slice value that is yielded as these strings. -/
abbrev Ss (w : World) (a : Option Addr) (n c : Nat) (ls : List ByteArray) : Prop := SrcV w 1 (.slice a n c) n (ls.map .string)

theorem Ss.length {w : World} {a : Option Addr} {n c : Nat} {ls : List ByteArray} (h : Ss w a n c ls) : ls.length = n := by
  have := h.1; simpa using this
theorem Ss.read {w : World} {a : Option Addr} {n c : Nat} {ls : List ByteArray} (h : Ss w a n c ls) (j : Nat) (hj : j < ls.length) :
    ∃ b o, a = some ⟨b, o, none⟩ ∧ w.cell? ⟨b, o + j, none⟩ = some (.string ls[j]) ∧ n ≤ c ∧ j < n :=
  SrcV.at h (by rw [List.getElem?_map, List.getElem?_eq_getElem hj]; rfl)

theorem index_one (s : ByteArray) (w : World) : Calls Tryz.prog 80 #[.string s, .string ⟨#[10]⟩] w fun e w' => e = .returned (.int .i64 (Lib.indexByte s.data.toList 10)) ∧ w' = w :=
  Any.strings_Index_one Sh.lays143 s 10 w

theorem contains (s : ByteArray) (q : Bool) (hq : s.data.toList.contains 10 = q) (w : World) : Calls Tryz.prog 66 #[.string s, .string ⟨#[10]⟩] w fun e w' => e = .returned (.bool q) ∧ w = w' := by
  rw [Lib.contains_iff_indexByte] at hq
  have hi := index_one s w
  generalize Lib.indexByte s.data.toList 10 = z at *
  go_enter Tryz.func66, Tryz.ntmps66
  go_wp2_with fail
  refine hi.mono ?_
  rintro e w' ⟨rfl, rfl⟩
  clear hi
  go_wp2
  go_ret
  exact ⟨by rw [← hq]; rfl, rfl⟩

theorem hasLf (s : ByteArray) (q : Bool) (hq : s.data.toList.contains 10 = q) (w : World) : Calls Tryz.prog 44 #[.string s] w fun e w' => e = .returned (.bool q) ∧ w = w' := by
  have hi := contains s q hq w
  clear hq
  go_enter Tryz.func44, Tryz.ntmps44
  go_wp2_with fail
  refine hi.mono ?_
  rintro e w' ⟨rfl, rfl⟩
  clear hi
  go_wp2
  go_ret
  exact ⟨rfl, rfl⟩

/-- No line feed in any. -/
theorem index_clean (a : Option Addr) (n c : Nat) (ls : List ByteArray) (w : World) (h : Ss w a n c ls) (hn : n ≤ 1000000) (hl : NoLf ls) :
    Calls Tryz.prog 65 #[.slice a n c, .func (.func 44) #[] #[]] w fun e w' => e = .returned (.int .i64 (-1)) ∧ w = w' := by
  have hlen := h.length
  go_enter Tryz.func65, Tryz.ntmps65
  go_wp2
  go_loop [8] (fun i => ∃ k : Nat, k ≤ n ∧ i = .int .i64 k) (fun i => n - (RowKit.intOf i).toNat)
  case atStart => exact ⟨0, Nat.zero_le _, rfl⟩
  case round =>
    obtain ⟨k, hk, rfl⟩ := hrel
    by_cases hkn : k < n
    · obtain ⟨b, o, rfl, hc, hnc, _⟩ := h.read k (by omega)
      have hno := hasLf (ls[k]'(by omega)) false (by simpa using hl _ (List.getElem_mem (by omega))) w
      generalize ls[k]'(by omega) = st at *
      go_wp2_with fail
      refine hno.mono ?_
      rintro e w' ⟨rfl, rfl⟩
      clear hno
      go_wp2
      go_round
      case rel => exact ⟨k + 1, by omega, by go_num⟩
      case measure => simp [RowKit.intOf]; omega
    · obtain rfl : k = n := by omega
      go_wp2
      go_ret
      exact ⟨rfl, rfl⟩

/-- A line feed in one. -/
theorem index_dirty (a : Option Addr) (n c : Nat) (ls : List ByteArray) (w : World) (h : Ss w a n c ls) (hn : n ≤ 1000000) (hl : ¬ NoLf ls) :
    Calls Tryz.prog 65 #[.slice a n c, .func (.func 44) #[] #[]] w fun e w' => ∃ k : Nat, k < n ∧ e = .returned (.int .i64 k) ∧ w = w' := by
  have hlen := h.length
  obtain ⟨j, hj, hjl⟩ : ∃ j, ∃ h : j < ls.length, (10 : UInt8) ∈ (ls[j]).data.toList := by
    unfold NoLf at hl
    simp only [Classical.not_forall, Classical.not_not] at hl
    obtain ⟨s, hs, h10⟩ := hl
    obtain ⟨j, hj, rfl⟩ := List.getElem_of_mem hs
    exact ⟨j, hj, h10⟩
  go_enter Tryz.func65, Tryz.ntmps65
  go_wp2
  go_loop [8] (fun i => ∃ k : Nat, k ≤ j ∧ i = .int .i64 k) (fun i => n - (RowKit.intOf i).toNat)
  case atStart => exact ⟨0, Nat.zero_le _, rfl⟩
  case round =>
    obtain ⟨k, hk, rfl⟩ := hrel
    obtain ⟨b, o, rfl, hc, hnc, _⟩ := h.read k (by omega)
    obtain ⟨q, hq, hqk⟩ : ∃ q, (ls[k]'(by omega)).data.toList.contains 10 = q ∧ (q = false → k < j) := by
      refine ⟨_, rfl, fun hq => ?_⟩
      rcases Nat.lt_or_ge k j with h | h
      · exact h
      · obtain rfl : k = j := by omega
        exfalso; simp at hq hjl; exact hq hjl
    have hno := hasLf (ls[k]'(by omega)) q hq w
    clear hq
    generalize ls[k]'(by omega) = st at *
    cases q
    · have hkj := hqk rfl
      clear hqk
      go_wp2_with fail
      refine hno.mono ?_
      rintro e w' ⟨rfl, rfl⟩
      clear hno
      go_wp2
      go_round
      case rel => exact ⟨k + 1, by omega, by go_num⟩
      case measure => simp [RowKit.intOf]; omega
    · clear hqk
      go_wp2_with fail
      refine hno.mono ?_
      rintro e w' ⟨rfl, rfl⟩
      clear hno
      go_wp2
      go_ret
      exact ⟨k, by omega, rfl, rfl⟩

theorem cf_clean (a : Option Addr) (n c : Nat) (ls : List ByteArray) (w : World) (h : Ss w a n c ls) (hn : n ≤ 1000000) (hl : NoLf ls) :
    Calls Tryz.prog 43 #[.slice a n c, .func (.func 44) #[] #[]] w fun e w' => e = .returned (.bool false) ∧ w = w' := by
  go_enter Tryz.func43, Tryz.ntmps43
  go_wp2_with (go_at_call 65; refine (index_clean a n c ls w h hn hl).mono ?_; rintro e w' ⟨rfl, rfl⟩)
  go_ret
  exact ⟨rfl, rfl⟩
theorem cf_dirty (a : Option Addr) (n c : Nat) (ls : List ByteArray) (w : World) (h : Ss w a n c ls) (hn : n ≤ 1000000) (hl : ¬ NoLf ls) :
    Calls Tryz.prog 43 #[.slice a n c, .func (.func 44) #[] #[]] w fun e w' => e = .returned (.bool true) ∧ w = w' := by
  go_enter Tryz.func43, Tryz.ntmps43
  go_wp2_with fail
  refine (index_dirty a n c ls w h hn hl).mono ?_
  rintro e w' ⟨k, hk, rfl, rfl⟩
  go_wp2
  go_ret
  exact ⟨rfl, rfl⟩

theorem size_any (a : Option Addr) (n c : Nat) (ls : List ByteArray) (w : World) (h : Ss w a n c ls) (hn : n ≤ 1000000) (hs : (jn ls).length ≤ 4000000000000000000) :
    Calls Tryz.prog 45 #[.slice a n c] w fun e w' => e = .returned (.int .i64 (jn ls).length) ∧ w = w' := by
  have hlen := h.length
  go_enter Tryz.func45, Tryz.ntmps45
  go_wp2
  go_loop [3, 10] (fun u i => ∃ k : Nat, k ≤ n ∧ i = .int .i64 k ∧ u = .int .i64 ((jn (ls.take k)).length + (n - k) : Int)) (fun u i => n - (RowKit.intOf i).toNat)
  case atStart => exact ⟨0, Nat.zero_le _, rfl, by simp [jn]⟩
  case round =>
    obtain ⟨k, hk, rfl, rfl⟩ := hrel
    have hle := jn_len_take ls k
    by_cases hkn : k < n
    · obtain ⟨b, o, rfl, hc, hnc, _⟩ := h.read k (by omega)
      have hnx := jn_len_next ls k (by omega)
      have hle2 := jn_len_take ls (k + 1)
      generalize ls[k]'(by omega) = st at *
      generalize (jn (ls.take k)).length = q at *
      have hw1 : IntKind.i64.wrap ((q : Int) + (n - k) + st.size) = (q : Int) + (n - k) + st.size := by rw [IntKind.wrap_i64]; omega
      go_wp2
      go_round
      case rel => exact ⟨k + 1, by omega, by go_num, by rw [hnx]; congr 1; omega⟩
      case measure => simp [RowKit.intOf]; omega
    · obtain rfl : k = n := by omega
      go_wp2
      go_ret
      refine ⟨?_, rfl⟩
      rw [← hlen, List.take_length]; simp

end Go.Proofs.YtfllgmgipmmpkaaGreatDoor.Tf
