/-
  Lines and their text: ended, atLeastOne, Split.
-/
import Derived.Test.YtfllgmgipmmpkaaGreatDoorTf
import Derived.Test.YtfllgmgipmmpkaaGreatDoorRf
set_option linter.unusedVariables false
set_option linter.unusedSimpArgs false
set_option maxRecDepth 100000
namespace Go.Proofs.YtfllgmgipmmpkaaGreatDoor.Tf
open Go Go.RowKit Go.Proofs.YtfllgmgipmmpkaaGreatDoor.Vk Go.Proofs.YtfllgmgipmmpkaaGreatDoor.Tm Go.Proofs.YtfllgmgipmmpkaaGreatDoor.Str

def lst (ls : List ByteArray) : List ByteArray := if ls = [] then [⟨#[]⟩] else ls
theorem lst_ne (ls : List ByteArray) : lst ls ≠ [] := by unfold lst; split <;> simp_all
theorem lst_clean {ls : List ByteArray} (h : NoLf ls) : NoLf (lst ls) := by unfold lst; split; exact NoLf.empty; exact h
theorem lst_id {ls : List ByteArray} (h : ls ≠ []) : lst ls = ls := if_neg h

theorem least_any (a : Option Addr) (n c : Nat) (ls : List ByteArray) (w : World) (h : Ss w a n c ls) (hn : n ≤ 9223372036854775807) :
    Calls Tryz.prog 26 #[.slice a n c] w fun e w' => ∃ a' n' c', e = .returned (.slice a' n' c') ∧ Ss w' a' n' c' (lst ls) ∧ Below w.heap.size w w' := by
  have hlen := h.length
  by_cases h0 : n = 0
  · subst h0
    obtain rfl : ls = [] := List.length_eq_zero_iff.1 hlen
    clear h
    go_enter Tryz.func26, Tryz.ntmps26
    go_wp2
    go_ret
    refine ⟨_, 1, 1, rfl, ?_, (Below.refl _ w).alloc (Nat.le_refl _) _⟩
    exact SrcV.lit w #[.string ⟨#[]⟩] 9 1 rfl (by simp [Value.oneCell']) (by simp [maxLen])
  · have hne : ls ≠ [] := by intro e; subst e; simp at hlen; omega
    have hz : ((n : Int) == 0) = false := by rw [beq_eq_false_iff_ne]; omega
    have H := Lib.hid h
    clear h
    go_enter Tryz.func26, Tryz.ntmps26
    go_wp2
    go_ret
    exact ⟨a, n, c, rfl, by rw [lst_id hne]; exact H.out, Below.refl _ w⟩

abbrev TB : TypeId := 79
abbrev TU : TypeId := 5
theorem write_any (B b : Nat) (l : List UInt8) (s : ByteArray) (w : World) (h : Lib.IsBuilder TB TU B b (Lib.byteCells l) w) (hlen : l.length + s.size ≤ 140737488355328) (hBw : B ≤ w.heap.size) :
    Calls Tryz.prog 46 #[.pointer (some ⟨b, 0, none⟩), .string s] w fun e w' => e = .returned (.tuple #[.int .i64 s.size, .nilIface]) ∧ Lib.IsBuilder TB TU B b (Lib.byteCells (l ++ s.data.toList)) w' ∧ Below B w w' := by
  refine (Any.Builder_WriteString Sh.lays166 Sh.extra B b (Lib.byteCells l) s w h (by rw [Lib.byteCells_length]; exact hlen) hBw).mono ?_
  rintro e w' ⟨rfl, hb, hw⟩
  refine ⟨rfl, .inr ?_, hw⟩
  rw [show Lib.byteCells (l ++ s.data.toList) = Lib.byteCells l ++ Lib.strCells s by simp [Lib.byteCells, Lib.strCells]]
  exact hb
theorem string_any (B b : Nat) (l : List UInt8) (w : World) (h : Lib.IsBuilder TB TU B b (Lib.byteCells l) w) (hBw : B ≤ w.heap.size) :
    Calls Tryz.prog 47 #[.pointer (some ⟨b, 0, none⟩)] w fun e w' => e = .returned (.string ⟨l.toArray⟩) ∧ Below B w w' :=
  Any.Builder_String_any Sh.lays169 { Sh.extra with } B b l w h hBw

theorem ended_broken (a : Option Addr) (n c : Nat) (ls : List ByteArray) (most : Int) (w : World) (h : Ss w a n c ls) (hn : n ≤ 1000000) (hl : ¬ NoLf ls) :
    Calls Tryz.prog 25 #[.slice a n c, .int .i64 most] w fun e w' => e = .returned (.tuple #[.string ⟨#[]⟩, .int .i64 20]) ∧ w = w' := by
  have hc := cf_dirty a n c ls w h hn hl
  go_enter Tryz.func25, Tryz.ntmps25
  go_wp2_with fail
  refine hc.mono ?_
  rintro e w' ⟨rfl, rfl⟩
  clear hc
  go_wp2
  go_ret2
  exact ⟨rfl, rfl⟩

theorem ended_full (a : Option Addr) (n c : Nat) (ls : List ByteArray) (most : Int) (w : World) (h : Ss w a n c ls) (hn : n ≤ 1000000) (hl : NoLf ls) (hs : (jn ls).length ≤ 4000000000000000000) (hf : most < (jn ls).length) :
    Calls Tryz.prog 25 #[.slice a n c, .int .i64 most] w fun e w' => e = .returned (.tuple #[.string ⟨#[]⟩, .int .i64 21]) ∧ w = w' := by
  have hc := cf_clean a n c ls w h hn hl
  have hz := size_any a n c ls w h hn hs
  go_enter Tryz.func25, Tryz.ntmps25
  go_wp2_with fail
  refine hc.mono ?_
  rintro e w' ⟨rfl, rfl⟩
  clear hc
  go_wp2_with fail
  refine hz.mono ?_
  rintro e w' ⟨rfl, rfl⟩
  clear hz
  go_wp2
  go_ret2
  exact ⟨rfl, rfl⟩

set_option maxHeartbeats 1000000 in
theorem ended_ok (a : Option Addr) (n c : Nat) (ls : List ByteArray) (most : Int) (w : World) (h : Ss w a n c ls) (hn : n ≤ 1000000) (hl : NoLf ls) (hs : (jn ls).length ≤ 1000000000) (hf : ((jn ls).length : Int) ≤ most) :
    Calls Tryz.prog 25 #[.slice a n c, .int .i64 most] w fun e w' => e = .returned (.tuple #[.string ⟨(jn ls).toArray⟩, .int .i64 0]) ∧ Below w.heap.size w w' := by
  have hlen := h.length
  have hc := cf_clean a n c ls w h hn hl
  have hz := size_any a n c ls w h hn (by omega)
  obtain ⟨W, hW⟩ : ∃ W, W = w.alloc (.cells #[.pointer none, .slice none 0 0] TB) := ⟨_, rfl⟩
  have hb0 : Below w.heap.size w W := by rw [hW]; exact (Below.refl _ w).alloc (Nat.le_refl _) _
  have hI : Lib.IsBuilder TB TU w.heap.size w.heap.size (Lib.byteCells (jn (ls.take 0))) W := by
    refine .inl ⟨Nat.le_refl _, .slice none 0 0, by rw [hW]; exact World.alloc_heap_new w _, World.ownsRow_nil _ _ _ _, by simp [Value.ownBlock]⟩
  go_enter Tryz.func25, Tryz.ntmps25
  go_wp2_with fail
  refine hc.mono ?_
  rintro e w' ⟨rfl, rfl⟩
  clear hc
  go_wp2_with fail
  refine hz.mono ?_
  rintro e w' ⟨rfl, rfl⟩
  clear hz
  go_wp2
  rw [← hW]
  go_loopw [17] (fun i wr => ∃ k : Nat, k ≤ n ∧ i = .int .i64 k ∧ Hid (Lib.IsBuilder TB TU w.heap.size w.heap.size (Lib.byteCells (jn (ls.take k))) wr) ∧ Hid (Below w.heap.size w wr)) (fun i wr => n - (RowKit.intOf i).toNat)
  case atStart => exact ⟨0, Nat.zero_le _, rfl, hI, hb0⟩
  case round =>
    obtain ⟨k, hk, rfl, hi, hb⟩ := hrel
    have hle := jn_len_take ls k
    have hsz := hb.out.size
    by_cases hkn : k < n
    · have hr : Ss wr a n c ls := SrcV.below h hb.out
      obtain ⟨b, o, rfl, hcl, hnc, _⟩ := hr.read k (by omega)
      have hnx := jn_len_next ls k (by omega)
      have hle2 := jn_len_take ls (k + 1)
      have hts : Hid (jn (ls.take (k + 1)) = jn (ls.take k) ++ (ls[k]'(by omega)).data.toList ++ [10]) := by
        show _ = _
        rw [List.take_succ_eq_append_getElem (by omega), jn_snoc]
      have HB := hb
      clear hr h hb hI hb0
      generalize ls[k]'(by omega) = st at *
      go_wp2_with fail
      refine (write_any w.heap.size w.heap.size _ st wr hi.out (by omega) hsz).mono ?_
      rintro e w1 ⟨rfl, hi1, hb1⟩
      have hsz1 := hb1.size
      have HI1 := Lib.hid hi1
      have HB1 := Lib.hid hb1
      clear hi1 hb1
      go_wp2_with fail
      refine (write_any w.heap.size w.heap.size _ ⟨#[10]⟩ w1 HI1.out (by rw [List.length_append, size_str]; show _ + _ + 1 ≤ _; omega) (by omega)).mono ?_
      rintro e w2 ⟨rfl, hi2, hb2⟩
      have HI2 := Lib.hid hi2
      have HB2 := Lib.hid (HB.out.trans (HB1.out.trans hb2))
      clear hi2 hb2
      go_wp2
      go_roundw
      case rel => exact ⟨k + 1, by omega, by go_num, by rw [hts.out]; exact HI2.out, HB2.out⟩
      case measure => simp [RowKit.intOf]; omega
    · obtain rfl : k = n := by omega
      have hfin := string_any w.heap.size w.heap.size _ wr hi.out hsz
      have HB := hb
      clear hb hi hI hb0 h
      go_wp2_with fail
      refine hfin.mono ?_
      rintro e w2 ⟨rfl, hb2⟩
      have HB2 := Lib.hid (HB.out.trans hb2)
      clear hb2 hfin
      go_wp2
      go_ret2
      refine ⟨?_, HB2.out⟩
      rw [← hlen, List.take_length]; rfl

/-- A text made of lines, without the last line feed. -/
theorem trim_jn (ls : List ByteArray) (h0 : ls ≠ []) : Lib.trimSuffix (jn ls) [10] ++ [10] = jn ls := by
  obtain ⟨l, x, rfl⟩ : ∃ l x, ls = l ++ [x] := by
    rcases List.eq_nil_or_concat ls with h | ⟨l, x, h⟩
    · exact absurd h h0
    · exact ⟨l, x, by rw [h, List.concat_eq_append]⟩
  rw [jn_snoc]
  have : Lib.hasSuffix (jn l ++ x.data.toList ++ [10]) [10] = true := by
    unfold Lib.hasSuffix
    exact List.isSuffixOf_iff_suffix.2 (List.suffix_append _ _)
  unfold Lib.trimSuffix
  rw [if_pos this]
  rw [List.length_append, Nat.add_sub_cancel, List.take_left' rfl]

theorem map_inj : ∀ {a b : List ByteArray}, a.map (fun x => x.data.toList) = b.map (fun x => x.data.toList) → a = b
  | [], [], _ => rfl
  | [], _ :: _, h => by simp at h
  | _ :: _, [], h => by simp at h
  | x :: a, y :: b, h => by
    simp only [List.map_cons, List.cons.injEq] at h
    rw [bytes_inj h.1, map_inj h.2]

def gMax : Nat := 0
/-- What the package variable MaxLen must be: some number. -/
def MaxOk (w : World) : Prop := ∃ m : Int, w.cell? ⟨gMax, 0, none⟩ = some (.int .i64 m)

theorem split_lib (t : ByteArray) (ls : List ByteArray) (hl : NoLf ls) (h0 : ls ≠ []) (hj : jn ls = t.data.toList ++ [10]) (w : World) (hm : MaxOk w) (hs : t.size ≤ 4000000) :
    Calls Tryz.prog 34 #[.string t, .string ⟨#[10]⟩] w fun e w' => e = .returned (.slice (some ⟨w.heap.size, 0, none⟩) ls.length ls.length) ∧ w' = w.alloc (.cells (ls.map Value.string).toArray 9) := by
  obtain ⟨m, hm⟩ := hm
  refine (Any.strings_Split Sh.lays146 (by kernel_rfl) t ⟨#[10]⟩ m w (by omega) hm (by decide)).mono ?_
  have hlist : Lib.splitB ⟨#[10]⟩ 0 (Lib.countB t ⟨#[10]⟩) t = ls := by
    have hc : Lib.countB t ⟨#[10]⟩ = t.data.toList.count 10 := Lib.count_one 10 t.data.toList
    have h1 := Lib.splitB_data ⟨#[10]⟩ 0 (Lib.countB t ⟨#[10]⟩) t
    rw [hc] at h1 ⊢
    have h2 := splitK_lines ls hl h0 t.data.toList hj
    have h3 := h1.trans h2
    exact map_inj h3
  have hlen : Lib.countB t ⟨#[10]⟩ + 1 = ls.length := by
    rw [← hlist]; exact (Lib.splitB_all ⟨#[10]⟩ (by decide) 0 _ t rfl).symm
  rintro e w' ⟨rfl, rfl⟩
  rw [hlist, hlen]
  exact ⟨rfl, rfl⟩

theorem split_any (t : ByteArray) (ls : List ByteArray) (hl : NoLf ls) (h0 : ls ≠ []) (hj : jn ls = Lib.trimSuffix t.data.toList [10] ++ [10]) (w : World) (hm : MaxOk w) (hs : t.size ≤ 4000000) :
    Calls Tryz.prog 16 #[.string t] w fun e w' => e = .returned (.slice (some ⟨w.heap.size, 0, none⟩) ls.length ls.length) ∧ w' = w.alloc (.cells (ls.map Value.string).toArray 9) := by
  have htr := Any.strings_TrimSuffix Sh.lays102 t ⟨#[10]⟩ w (by omega)
  have hle : (⟨(Lib.trimSuffix t.data.toList [10]).toArray⟩ : ByteArray).size ≤ 4000000 := by
    rw [← size_str]
    have := Lib.trimSuffix_le t.data.toList [10]
    rw [size_str] at this
    exact Nat.le_trans this hs
  have hsp := split_lib ⟨(Lib.trimSuffix t.data.toList [10]).toArray⟩ ls hl h0 hj w hm hle
  generalize (⟨(Lib.trimSuffix t.data.toList [10]).toArray⟩ : ByteArray) = tt at *
  go_enter Tryz.func16, Tryz.ntmps16
  go_wp2_with fail
  refine htr.mono ?_
  rintro e w' ⟨rfl, rfl⟩
  clear htr
  go_wp2_with fail
  refine hsp.mono ?_
  rintro e w' ⟨rfl, rfl⟩
  clear hsp
  go_wp2
  go_ret
  exact ⟨rfl, rfl⟩

end Go.Proofs.YtfllgmgipmmpkaaGreatDoor.Tf
