/-
  What the laws of layer 4 ask of lists of strings: Strings, Size, broken, Light, Text.
-/
import Derived.Test.YtfllgmgipmmpkaaGreatDoorTe
import Derived.RegionTactic
import Derived.BigQuiet
import Derived.IntWalk
set_option linter.unusedVariables false
set_option linter.unusedSimpArgs false
set_option maxRecDepth 100000
namespace Go.Proofs.YtfllgmgipmmpkaaGreatDoor.Tf
open Go Go.RowKit Go.Proofs.YtfllgmgipmmpkaaGreatDoor.Vk Go.Proofs.YtfllgmgipmmpkaaGreatDoor.Tm Go.Proofs.YtfllgmgipmmpkaaGreatDoor.Str
attribute [local go_sem] Oper.semAt_some

/-- Two slices of the same strings. -/
theorem same_any (a : Option Addr) (n c : Nat) (a' : Option Addr) (c' : Nat) (ls : List ByteArray) (w : World) (h : Ss w a n c ls) (h' : Ss w a' n c' ls) (hn : n ≤ 1000000) :
    Calls Tryz.prog 15 #[.slice a n c, .slice a' n c'] w fun e w' => e = .returned (.bool true) ∧ Below w.heap.size w w' := by
  have hlen := h.length
  go_enter Tryz.func15, Tryz.ntmps15
  go_wp2
  go_loopw [5] (fun i wr => ∃ k : Nat, k ≤ n ∧ i = .int .i64 k ∧ Hid (∃ m, wr = w.drewN m)) (fun i _ => n - (RowKit.intOf i).toNat)
  case atStart => exact ⟨0, Nat.zero_le _, rfl, 0, rfl⟩
  case round =>
    obtain ⟨k, hk, rfl, hw⟩ := hrel
    by_cases hkn : k < n
    · obtain ⟨m, rfl⟩ := hw.out
      obtain ⟨b, o, rfl, hc, hnc, _⟩ := h.read k (by omega)
      obtain ⟨b', o', rfl, hc', hnc', _⟩ := h'.read k (by omega)
      clear h h'
      generalize ls[k]'(by omega) = st at *
      go_wp2
      go_quiet (fail)
      go_wp2
      go_roundw
      case rel => exact ⟨k + 1, by omega, by go_num, m + nq, rfl⟩
      case measure => simp [RowKit.intOf]; omega
    · obtain rfl : k = n := by omega
      obtain ⟨m, rfl⟩ := hw.out
      go_wp2
      go_ret
      exact ⟨rfl, ((Fr.refl (fun _ => False) w).drewN m).below (Nat.le_refl _) (by simp)⟩

theorem jn_bound (ls : List ByteArray) (hb : ∀ s ∈ ls, s.size ≤ 140737488355328) : (jn ls).length ≤ ls.length * 140737488355329 := by
  induction ls with
  | nil => simp [jn]
  | cons s r ih =>
    have h1 := hb s (by simp)
    have h2 := ih (fun x hx => hb x (by simp [hx]))
    rw [jn_len_cons, List.length_cons]
    omega

theorem size5_any (a : Option Addr) (n c : Nat) (ls : List ByteArray) (w : World) (h : Ss w a n c ls) (hn : n ≤ 1000000) (hs : (jn ls).length ≤ 4000000000000000000) :
    Calls Tryz.prog 11 #[.slice a n c] w fun e w' => e = .returned (.int .i64 (jn ls).length) ∧ w = w' := by
  have hlen := h.length
  go_enter Tryz.func11, Tryz.ntmps11
  go_wp2
  go_loop [3, 4] (fun u i => ∃ k : Nat, k ≤ n ∧ i = .int .i64 k ∧ u = .int .i64 (jn (ls.take k)).length) (fun u i => n - (RowKit.intOf i).toNat)
  case atStart => exact ⟨0, Nat.zero_le _, rfl, by simp [jn]⟩
  case round =>
    obtain ⟨k, hk, rfl, rfl⟩ := hrel
    have hle := jn_len_take ls k
    by_cases hkn : k < n
    · obtain ⟨b, o, rfl, hc, hnc, _⟩ := h.read k (by omega)
      have hnx := jn_len_next ls k (by omega)
      have hle2 := jn_len_take ls (k + 1)
      generalize ls[k]'(by omega) = st at *
      generalize (jn (ls.take k)).length = q at *
      have hw1 : IntKind.i64.wrap ((st.size : Int) + 1) = (st.size : Int) + 1 := by rw [IntKind.wrap_i64]; omega
      have hw2 : IntKind.i64.wrap ((q : Int) + ((st.size : Int) + 1)) = (q : Int) + ((st.size : Int) + 1) := by rw [IntKind.wrap_i64]; omega
      go_wp2
      go_round
      case rel => exact ⟨k + 1, by omega, by go_num, by rw [hnx]; rfl⟩
      case measure => simp [RowKit.intOf]; omega
    · obtain rfl : k = n := by omega
      go_wp2
      go_ret
      refine ⟨?_, rfl⟩
      rw [← hlen, List.take_length]; rfl

theorem mem_byte {s : ByteArray} (j : Nat) (hj : j < s.size) (h : s[j] = 10) : (10 : UInt8) ∈ s.data.toList := by
  rw [← h]
  have hl : j < s.data.toList.length := by rw [size_str]; exact hj
  have : s[j] = s.data.toList[j] := rfl
  rw [this]; exact List.getElem_mem hl
theorem no_byte {s : ByteArray} (h : ∀ j, ∀ hj : j < s.size, s[j] ≠ 10) : (10 : UInt8) ∉ s.data.toList := by
  intro hm
  obtain ⟨j, hj, he⟩ := List.getElem_of_mem hm
  rw [size_str] at hj
  exact h j hj he
theorem byte_eq {s : ByteArray} {j : Nat} (hj : j < s.size) (h : s[j] = 10) : (((s[j]'hj).toNat : Int) == 10) = true := by rw [h]; rfl
theorem byte_ne {s : ByteArray} {j : Nat} (hj : j < s.size) (h : s[j] ≠ 10) : (((s[j]'hj).toNat : Int) == 10) = false := by
  rw [beq_eq_false_iff_ne]; intro h'; apply h; apply UInt8.toNat_inj.1; have : (10 : UInt8).toNat = 10 := rfl; omega

theorem take_clean {ls : List ByteArray} {k : Nat} (hk : k < ls.length) (h : NoLf (ls.take k)) (h10 : (10 : UInt8) ∉ ls[k].data.toList) : NoLf (ls.take (k + 1)) := by
  rw [List.take_succ_eq_append_getElem hk]
  refine h.append fun s hs => ?_
  rw [List.mem_singleton.1 hs]; exact h10

def BrOut (ls : List ByteArray) (w : World) (e : Ending) (w' : World) : Prop := ∃ q, e = .returned (.bool q) ∧ w = w' ∧ (q = true → ¬ NoLf ls) ∧ (q = false → NoLf ls)
theorem broken_any (a : Option Addr) (n c : Nat) (ls : List ByteArray) (w : World) (h : Ss w a n c ls) (hn : n ≤ 1000000) (hsb : ∀ s ∈ ls, s.size ≤ 140737488355328) :
    Calls Tryz.prog 12 #[.slice a n c] w fun e w' => BrOut ls w e w' := by
  have hlen := h.length
  have hmx := h.2.2.1
  go_enter Tryz.func12, Tryz.ntmps12
  go_wp2
  go_loop [3] (fun i => ∃ k : Nat, k ≤ n ∧ i = .int .i64 k ∧ Hid (NoLf (ls.take k))) (fun i => n - (RowKit.intOf i).toNat)
  case atStart => exact ⟨0, Nat.zero_le _, rfl, fun s hs => by simp at hs⟩
  case round =>
    obtain ⟨k, hk, rfl, hcl⟩ := hrel
    by_cases hkn : k < n
    · obtain ⟨b, o, rfl, hc, hnc, _⟩ := h.read k (by omega)
      have hmem : ls[k]'(by omega) ∈ ls := List.getElem_mem (by omega)
      have htc := take_clean (ls := ls) (k := k) (by omega) hcl.out
      have hsz := hsb _ hmem
      have HM := Lib.hid hmem
      have HT := Lib.hid htc
      clear hmem htc h
      generalize ls[k]'(by omega) = st at *
      go_wp2
      go_loop [4] (fun u => ∃ j : Nat, j ≤ st.size ∧ u = .int .i64 j ∧ Hid (∀ q, ∀ hq : q < st.size, q < j → st[q] ≠ 10)) (fun u => st.size - (RowKit.intOf u).toNat)
      case atStart => exact ⟨0, Nat.zero_le _, rfl, fun q hq h => by omega⟩
      case round =>
        obtain ⟨j, hj, rfl, hbs⟩ := hrel
        have hwj : IntKind.i64.wrap ((j : Int) + 1) = (j : Int) + 1 := by rw [IntKind.wrap_i64]; omega
        by_cases hjn : j < st.size
        · by_cases h10 : st[j] = 10
          · have hb := byte_eq hjn h10
            have H10 := Lib.hid h10
            clear h10
            go_wp2
            go_ret
            exact ⟨true, rfl, rfl, fun _ hno => hno _ HM.out (mem_byte j hjn H10.out), by simp⟩
          · have hb := byte_ne hjn h10
            have H10 := Lib.hid h10
            clear h10
            go_wp2
            go_round
            case rel => exact ⟨j + 1, by omega, by go_num, fun q hq h => by
              by_cases he : q = j
              · subst he; exact H10.out
              · exact hbs.out q hq (by omega)⟩
            case measure => simp [RowKit.intOf]; omega
        · obtain rfl : j = st.size := by omega
          go_wp2
          go_round
          case rel => exact ⟨k + 1, by omega, by go_num, HT.out (no_byte fun q hq => hbs.out q hq hq)⟩
          case measure => simp [RowKit.intOf]; omega
    · obtain rfl : k = n := by omega
      go_wp2
      go_ret
      exact ⟨false, rfl, rfl, by simp, fun _ => by have := hcl.out; rwa [← hlen, List.take_length] at this⟩

/-- What Light tells: where it says yes, the lines are few and short, and whole. -/
def LtOut (n : Nat) (ls : List ByteArray) (w : World) (e : Ending) (w' : World) : Prop := ∃ q, e = .returned (.bool q) ∧ w = w' ∧ (q = true → n ≤ 40 ∧ (jn ls).length ≤ 1240 ∧ NoLf ls)
theorem light_any (a : Option Addr) (n c : Nat) (ls : List ByteArray) (w : World) (h : Ss w a n c ls) (hn : n ≤ 9223372036854775807) (hsb : ∀ s ∈ ls, s.size ≤ 140737488355328) :
    Calls Tryz.prog 9 #[.slice a n c] w fun e w' => LtOut n ls w e w' := by
  have hlen := h.length
  by_cases h40 : 40 < n
  · clear h
    go_enter Tryz.func9, Tryz.ntmps9
    go_wp2
    go_ret
    exact ⟨false, rfl, rfl, by simp⟩
  go_enter Tryz.func9, Tryz.ntmps9
  go_wp2
  go_loop [3, 4] (fun u i => ∃ k s : Nat, k ≤ n ∧ i = .int .i64 k ∧ u = .int .i64 s ∧ s ≤ 1200 ∧ Hid (NoLf (ls.take k) ∧ (jn (ls.take k)).length = s + k)) (fun u i => n - (RowKit.intOf i).toNat)
  case atStart => exact ⟨0, 0, Nat.zero_le _, rfl, rfl, by omega, fun s hs => by simp at hs, by simp [jn]⟩
  case round =>
    obtain ⟨k, s, hk, rfl, rfl, hs12, hcl⟩ := hrel
    by_cases hkn : k < n
    · obtain ⟨b, o, rfl, hc, hnc, _⟩ := h.read k (by omega)
      have hmem : ls[k]'(by omega) ∈ ls := List.getElem_mem (by omega)
      have htc := take_clean (ls := ls) (k := k) (by omega) hcl.out.1
      have hjl := jn_len_next ls k (by omega)
      have hsz := hsb _ hmem
      have HJ := Lib.hid hjl
      have HT := Lib.hid htc
      clear hmem htc h hjl
      generalize ls[k]'(by omega) = st at *
      have hw1 : IntKind.i64.wrap ((s : Int) + (st.size : Int)) = (s : Int) + st.size := by rw [IntKind.wrap_i64]; omega
      by_cases hbig : 1200 < s + st.size
      · go_wp2
        go_ret
        exact ⟨false, rfl, rfl, by simp⟩
      go_wp2
      go_loop [5] (fun u => ∃ j : Nat, j ≤ st.size ∧ u = .int .i64 j ∧ Hid (∀ q, ∀ hq : q < st.size, q < j → st[q] ≠ 10)) (fun u => st.size - (RowKit.intOf u).toNat)
      case atStart => exact ⟨0, Nat.zero_le _, rfl, fun q hq h => by omega⟩
      case round =>
        obtain ⟨j, hj, rfl, hbs⟩ := hrel
        by_cases hjn : j < st.size
        · by_cases h10 : st[j] = 10
          · have hb := byte_eq hjn h10
            clear h10
            go_wp2
            go_ret
            exact ⟨false, rfl, rfl, by simp⟩
          · have hb := byte_ne hjn h10
            have H10 := Lib.hid h10
            clear h10
            go_wp2
            go_round
            case rel => exact ⟨j + 1, by omega, by go_num, fun q hq h => by
              by_cases he : q = j
              · subst he; exact H10.out
              · exact hbs.out q hq (by omega)⟩
            case measure => simp [RowKit.intOf]; omega
        · obtain rfl : j = st.size := by omega
          go_wp2
          go_round
          case rel => exact ⟨k + 1, s + st.size, by omega, by go_num, by go_num, by omega, HT.out (no_byte fun q hq => hbs.out q hq hq), by rw [HJ.out, hcl.out.2]; omega⟩
          case measure => simp [RowKit.intOf]; omega
    · obtain rfl : k = n := by omega
      go_wp2
      go_ret
      exact ⟨true, rfl, rfl, fun _ => by have := hcl.out; rw [← hlen, List.take_length] at this; exact ⟨by omega, by omega, this.1⟩⟩

def TxOut (n : Nat) (ls : List ByteArray) (w : World) (e : Ending) (w' : World) : Prop := ∃ q, e = .returned (.bool q) ∧ w = w' ∧ (q = true → 0 < n ∧ n ≤ 40 ∧ (jn ls).length ≤ 1240 ∧ NoLf ls)
theorem text_any (a : Option Addr) (n c : Nat) (ls : List ByteArray) (w : World) (h : Ss w a n c ls) (hn : n ≤ 9223372036854775807) (hsb : ∀ s ∈ ls, s.size ≤ 140737488355328) :
    Calls Tryz.prog 18 #[.slice a n c] w fun e w' => TxOut n ls w e w' := by
  by_cases h0 : 0 < n
  · have hl := light_any a n c ls w h hn hsb
    clear h
    go_enter Tryz.func18, Tryz.ntmps18
    go_wp2_with fail
    refine hl.mono ?_
    rintro e w' ⟨q, rfl, rfl, hq⟩
    have HQ := Lib.hid hq
    clear hl hq
    go_wp2
    go_ret
    exact ⟨q, rfl, rfl, fun h => ⟨h0, HQ.out h⟩⟩
  · obtain rfl : n = 0 := by omega
    clear h
    go_enter Tryz.func18, Tryz.ntmps18
    go_wp2
    go_ret
    exact ⟨false, rfl, rfl, by simp⟩

end Go.Proofs.YtfllgmgipmmpkaaGreatDoor.Tf
