/-
  Lists of lines: what a slice of strings yields; the helps Light, Text, Strings and the document's Size.
-/
import Derived.Test.YtkddnknjjdenhaaChecked
import Derived.Test.YtkddnknjjdenhaaStr
import Derived.WalkLawsBesides
import Derived.WalkSpells
import Derived.Outline
import Derived.Lib.Hide
import Derived.LoopTactic
import Derived.Deep.DeepFit
import Derived.Deep.DeepMust
import Derived.RegionTactic
import Derived.BigQuiet
import Derived.IntWalk
set_option linter.unusedVariables false
set_option linter.unusedSimpArgs false
set_option maxRecDepth 100000
namespace Go.Proofs.Ytkddnknjjdenhaa.Ln
open Go Go.RowKit Go.Proofs.Ytkddnknjjdenhaa.Vk Go.Proofs.Ytkddnknjjdenhaa.Str
attribute [local go_sem] Oper.semAt_some

/-- The slice value that is yielded as these strings. -/
abbrev Ss (w : World) (a : Option Addr) (n c : Nat) (ls : List ByteArray) : Prop := SrcV w 1 (.slice a n c) n (ls.map .string)

theorem Ss.length {w : World} {a : Option Addr} {n c : Nat} {ls : List ByteArray} (h : Ss w a n c ls) : ls.length = n := by
  have := h.1; simpa using this
theorem Ss.read {w : World} {a : Option Addr} {n c : Nat} {ls : List ByteArray} (h : Ss w a n c ls) (j : Nat) (hj : j < ls.length) :
    ∃ b o, a = some ⟨b, o, none⟩ ∧ w.cell? ⟨b, o + j, none⟩ = some (.string ls[j]) ∧ n ≤ c ∧ j < n :=
  SrcV.at h (by rw [List.getElem?_map, List.getElem?_eq_getElem hj]; rfl)
theorem Ss.le63 {w : World} {a : Option Addr} {n c : Nat} {ls : List ByteArray} (h : Ss w a n c ls) : n ≤ 9223372036854775807 := by
  have := h.2.2.1; unfold maxLen at this; omega
theorem Ss.drewN {w : World} {a : Option Addr} {n c : Nat} {ls : List ByteArray} (h : Ss w a n c ls) (m : Nat) : Ss (w.drewN m) a n c ls :=
  SrcV.fr h ((Fr.refl (fun _ => False) w).drewN m) (by simp)

/-- How many bytes lines have, one more for each. -/
def tz (ls : List ByteArray) : Nat := (ls.map fun s => s.size + 1).sum
theorem tz_nil : tz [] = 0 := rfl
theorem tz_cons (s : ByteArray) (ls : List ByteArray) : tz (s :: ls) = s.size + 1 + tz ls := rfl
theorem tz_append (a b : List ByteArray) : tz (a ++ b) = tz a + tz b := by simp [tz]
theorem tz_next (ls : List ByteArray) (k : Nat) (h : k < ls.length) : tz (ls.take (k + 1)) = tz (ls.take k) + ls[k].size + 1 := by
  rw [List.take_succ_eq_append_getElem h, tz_append]; simp [tz]; omega
theorem tz_take (ls : List ByteArray) (k : Nat) : tz (ls.take k) ≤ tz ls := by
  conv => rhs; rw [← List.take_append_drop k ls]
  rw [tz_append]; omega
theorem tz_mem (ls : List ByteArray) (s : ByteArray) (h : s ∈ ls) : s.size + 1 ≤ tz ls := by
  induction ls with
  | nil => cases h
  | cons x r ih =>
    rw [tz_cons]
    rcases List.mem_cons.1 h with rfl | h
    · omega
    · have := ih h; omega
theorem tz_ge (ls : List ByteArray) : ls.length ≤ tz ls := by
  induction ls with
  | nil => simp
  | cons s r ih => rw [tz_cons, List.length_cons]; omega

def NoLf (ls : List ByteArray) : Prop := ∀ s ∈ ls, (10 : UInt8) ∉ s.data.toList
theorem no_byte {s : ByteArray} (h : ∀ j, ∀ hj : j < s.size, s[j] ≠ 10) : (10 : UInt8) ∉ s.data.toList := by
  intro hm
  obtain ⟨j, hj, he⟩ := List.getElem_of_mem hm
  rw [size_str] at hj
  exact h j hj he
theorem byte_eq {s : ByteArray} {j : Nat} (hj : j < s.size) (h : s[j] = 10) : (((s[j]'hj).toNat : Int) == 10) = true := by rw [h]; rfl
theorem byte_ne {s : ByteArray} {j : Nat} (hj : j < s.size) (h : s[j] ≠ 10) : (((s[j]'hj).toNat : Int) == 10) = false := by
  rw [beq_eq_false_iff_ne]; intro h'; apply h; apply UInt8.toNat_inj.1; have : (10 : UInt8).toNat = 10 := rfl; omega
theorem take_clean {ls : List ByteArray} {k : Nat} (hk : k < ls.length) (h : NoLf (ls.take k)) (h10 : (10 : UInt8) ∉ ls[k].data.toList) : NoLf (ls.take (k + 1)) := by
  rw [List.take_succ_eq_append_getElem hk]
  intro s hs
  rcases List.mem_append.1 hs with h1 | h1
  · exact h s h1
  · rw [List.mem_singleton.1 h1]; exact h10

/-- What Light tells: where it says yes, the lines are few and short, and whole. -/
def LtOut (n : Nat) (ls : List ByteArray) (w : World) (e : Ending) (w' : World) : Prop := ∃ q, e = .returned (.bool q) ∧ w = w' ∧ (q = true → n ≤ 40 ∧ tz ls ≤ 1240 ∧ NoLf ls)
theorem light_any (a : Option Addr) (n c : Nat) (ls : List ByteArray) (w : World) (h : Ss w a n c ls) (hsb : ∀ s ∈ ls, s.size ≤ 140737488355328) :
    Calls Try.prog 11 #[.slice a n c] w fun e w' => LtOut n ls w e w' := by
  have hlen := h.length
  have hn := h.le63
  by_cases h40 : 40 < n
  · clear h
    go_enter Try.func11, Try.ntmps11
    go_wp2
    go_ret
    exact ⟨false, rfl, rfl, by simp⟩
  go_enter Try.func11, Try.ntmps11
  go_wp2
  go_loop [3, 4] (fun u i => ∃ k s : Nat, k ≤ n ∧ i = .int .i64 k ∧ u = .int .i64 s ∧ s ≤ 1200 ∧ Hid (NoLf (ls.take k) ∧ tz (ls.take k) = s + k)) (fun u i => n - (RowKit.intOf i).toNat)
  case atStart => exact ⟨0, 0, Nat.zero_le _, rfl, rfl, by omega, fun s hs => by simp at hs, by simp [tz]⟩
  case round =>
    obtain ⟨k, s, hk, rfl, rfl, hs12, hcl⟩ := hrel
    by_cases hkn : k < n
    · obtain ⟨b, o, rfl, hc, hnc, _⟩ := h.read k (by omega)
      have hmem : ls[k]'(by omega) ∈ ls := List.getElem_mem (by omega)
      have htc := take_clean (ls := ls) (k := k) (by omega) hcl.out.1
      have hjl := tz_next ls k (by omega)
      have hsz := hsb _ hmem
      have HJ := Lib.hid hjl
      have HT := Lib.hid htc
      clear hmem htc h hjl
      generalize ls[k]'(by omega) = st at *
      have hw1 : IntKind.i64.wrap ((s : Int) + (st.size : Int)) = (s : Int) + st.size := by rw [IntKind.wrap_i64]; omega
      by_cases hbig : 1200 < s + st.size
      · go_wp2
        go_ret
        exact ⟨false, rfl, rfl, by simp⟩
      go_wp2
      go_loop [5] (fun u => ∃ j : Nat, j ≤ st.size ∧ u = .int .i64 j ∧ Hid (∀ q, ∀ hq : q < st.size, q < j → st[q] ≠ 10)) (fun u => st.size - (RowKit.intOf u).toNat)
      case atStart => exact ⟨0, Nat.zero_le _, rfl, fun q hq h => by omega⟩
      case round =>
        obtain ⟨j, hj, rfl, hbs⟩ := hrel
        by_cases hjn : j < st.size
        · by_cases h10 : st[j] = 10
          · have hb := byte_eq hjn h10
            clear h10
            go_wp2
            go_ret
            exact ⟨false, rfl, rfl, by simp⟩
          · have hb := byte_ne hjn h10
            have H10 := Lib.hid h10
            clear h10
            go_wp2
            go_round
            case rel => exact ⟨j + 1, by omega, by go_num, fun q hq h => by
              by_cases he : q = j
              · subst he; exact H10.out
              · exact hbs.out q hq (by omega)⟩
            case measure => simp [RowKit.intOf]; omega
        · obtain rfl : j = st.size := by omega
          go_wp2
          go_round
          case rel => exact ⟨k + 1, s + st.size, by omega, by go_num, by go_num, by omega, HT.out (no_byte fun q hq => hbs.out q hq hq), by rw [HJ.out, hcl.out.2]; omega⟩
          case measure => simp [RowKit.intOf]; omega
    · obtain rfl : k = n := by omega
      go_wp2
      go_ret
      exact ⟨true, rfl, rfl, fun _ => by have := hcl.out; rw [← hlen, List.take_length] at this; exact ⟨by omega, by omega, this.1⟩⟩

/-- What Text tells: where it says yes, there is a line besides. -/
def TxOut (n : Nat) (ls : List ByteArray) (w : World) (e : Ending) (w' : World) : Prop := ∃ q, e = .returned (.bool q) ∧ w = w' ∧ (q = true → 0 < n ∧ n ≤ 40 ∧ tz ls ≤ 1240 ∧ NoLf ls)
theorem text_any (a : Option Addr) (n c : Nat) (ls : List ByteArray) (w : World) (h : Ss w a n c ls) (hsb : ∀ s ∈ ls, s.size ≤ 140737488355328) :
    Calls Try.prog 10 #[.slice a n c] w fun e w' => TxOut n ls w e w' := by
  have hn := h.le63
  by_cases h0 : 0 < n
  · have hl := light_any a n c ls w h hsb
    clear h
    go_enter Try.func10, Try.ntmps10
    go_wp2_with fail
    refine hl.mono ?_
    rintro e w' ⟨q, rfl, rfl, hq⟩
    have HQ := Lib.hid hq
    clear hl hq
    go_wp2
    go_ret
    exact ⟨q, rfl, rfl, fun h => ⟨h0, HQ.out h⟩⟩
  · obtain rfl : n = 0 := by omega
    clear h
    go_enter Try.func10, Try.ntmps10
    go_wp2
    go_ret
    exact ⟨false, rfl, rfl, by simp⟩

/-- Two lists that agree up to k, and at k. -/
theorem take_same {x y : List ByteArray} {k : Nat} (hx : k < x.length) (hy : k < y.length) (h : x.take k = y.take k) (he : x[k] = y[k]) : x.take (k + 1) = y.take (k + 1) := by
  rw [List.take_succ_eq_append_getElem hx, List.take_succ_eq_append_getElem hy, h, he]
theorem not_same {x y : List ByteArray} {k : Nat} (hx : k < x.length) (hy : k < y.length) (he : x[k] ≠ y[k]) : decide (x = y) = false :=
  decide_eq_false fun e => he (by subst e; rfl)

theorem str_inj {x y : ByteArray} (h : x.toList = y.toList) : x = y := by
  rw [ByteArray.toList_eq, ByteArray.toList_eq] at h
  cases x; cases y; simp only [ByteArray.mk.injEq]; exact Array.toList_inj.1 h
theorem str_ne {x y : ByteArray} (h : x ≠ y) : (x.toList == y.toList) = false := by rw [beq_eq_false_iff_ne]; exact fun e => h (str_inj e)

/-- Are two slices the same strings: the help. -/
theorem strings_any (a : Option Addr) (n c : Nat) (x : List ByteArray) (a' : Option Addr) (n' c' : Nat) (y : List ByteArray) (w : World) (h : Ss w a n c x) (h' : Ss w a' n' c' y) :
    Calls Try.prog 25 #[.slice a n c, .slice a' n' c'] w fun e w' => e = .returned (.bool (decide (x = y))) ∧ ∃ m, w' = w.drewN m := by
  have hl := h.length
  have hl' := h'.length
  have hn := h.le63
  have hn' := h'.le63
  by_cases hne : n = n'
  · subst hne
    go_enter Try.func25, Try.ntmps25
    go_wp2
    go_loopw [5] (fun i wr => ∃ k : Nat, k ≤ n ∧ i = .int .i64 k ∧ Hid (x.take k = y.take k) ∧ Hid (∃ m, wr = w.drewN m)) (fun i _ => n - (RowKit.intOf i).toNat)
    case atStart => exact ⟨0, Nat.zero_le _, rfl, by simp [Hid], 0, rfl⟩
    case round =>
      obtain ⟨k, hk, rfl, hst, hw⟩ := hrel
      by_cases hkn : k < n
      · obtain ⟨m, rfl⟩ := hw.out
        obtain ⟨b, o, rfl, hc, hnc, _⟩ := h.read k (by omega)
        obtain ⟨b', o', rfl, hc', hnc', _⟩ := h'.read k (by omega)
        by_cases he : x[k]'(by omega) = y[k]'(by omega)
        · have hts := take_same (by omega) (by omega) hst.out he
          have HT := Lib.hid hts
          rw [← he] at hc'
          clear h h' hts he
          generalize x[k]'(by omega) = st at *
          go_wp2
          go_quiet (fail)
          go_wp2
          go_roundw
          case rel => exact ⟨k + 1, by omega, by go_num, HT, m + nq, rfl⟩
          case measure => simp [RowKit.intOf]; omega
        · have hns := not_same (x := x) (y := y) (by omega) (by omega) he
          have hse := str_ne he
          have HN := Lib.hid hns
          clear h h' hns he
          generalize x[k]'(by omega) = st at *
          generalize y[k]'(by omega) = st' at *
          go_wp2
          go_quiet (fail)
          go_wp2
          go_ret
          exact ⟨by rw [HN.out]; rfl, m + nq, World.drewN_drewN _ _ _⟩
      · obtain rfl : k = n := by omega
        obtain ⟨m, rfl⟩ := hw.out
        have hxy : x = y := by have := hst.out; rwa [List.take_of_length_le (by omega), List.take_of_length_le (by omega)] at this
        have HXY := Lib.hid hxy
        clear h h' hxy hst
        go_wp2
        go_ret
        exact ⟨by rw [decide_eq_true HXY.out]; rfl, m, rfl⟩
  · have hd : decide (x = y) = false := decide_eq_false fun e => hne (by rw [← hl, ← hl', e])
    have hz : ((n : Int) == n') = false := by rw [beq_eq_false_iff_ne]; omega
    have HD := Lib.hid hd
    clear h h' hd
    go_enter Try.func25, Try.ntmps25
    go_wp2
    go_ret
    exact ⟨by rw [HD.out]; rfl, 0, rfl⟩

abbrev ES : TypeId := 9
theorem infoS : (Try.prog.info? ES).map (fun i => (i.zero, i.size, i.bytes)) = some (some (.string ⟨#[]⟩), 1, 16) := by kernel_rfl
theorem underS : Try.prog.underlying 22 = some (.slice ES) := by kernel_rfl
theorem one_cells (ls : List ByteArray) : ∀ u ∈ ls.map Value.string, u.oneCell' = true := by simp [Value.oneCell']

end Go.Proofs.Ytkddnknjjdenhaa.Ln
