/-
  Package class, and the document's answers to it: classes of bytes, a line's first byte that is no blank, places in a text.
-/
import Derived.Test.YtgfajagajiofnaaLn
set_option linter.unusedVariables false
set_option linter.unusedSimpArgs false
set_option maxRecDepth 100000
namespace Go.Proofs.Ytgfajagajiofnaa.Cl
open Go Go.RowKit Go.Proofs.Ytgfajagajiofnaa.Vk Go.Proofs.Ytgfajagajiofnaa.Str Go.Proofs.Ytgfajagajiofnaa.Ln
attribute [local go_sem] Oper.semAt_some

/-- The class of a byte. -/
def cls (c : Int) (big : Bool) : Int :=
  if c = 32 ∨ c = 9 then 0 else if big = true then 1 else if 97 ≤ c ∧ c ≤ 122 ∨ 65 ≤ c ∧ c ≤ 90 ∨ 48 ≤ c ∧ c ≤ 57 ∨ c = 95 ∨ 128 ≤ c then 1 else 2
theorem cls_blank {c : Int} (b : Bool) (h : c = 32 ∨ c = 9) : cls c b = 0 := if_pos h
theorem cls_big {c : Int} (h1 : c ≠ 32) (h2 : c ≠ 9) : cls c true = 1 := by unfold cls; rw [if_neg (by omega), if_pos rfl]
theorem cls_word {c : Int} (h1 : c ≠ 32) (h2 : c ≠ 9) (h : 97 ≤ c ∧ c ≤ 122 ∨ 65 ≤ c ∧ c ≤ 90 ∨ 48 ≤ c ∧ c ≤ 57 ∨ c = 95 ∨ 128 ≤ c) : cls c false = 1 := by
  unfold cls; rw [if_neg (by omega), if_neg (by decide), if_pos h]
theorem cls_other {c : Int} (h1 : c ≠ 32) (h2 : c ≠ 9) (h : ¬ (97 ≤ c ∧ c ≤ 122 ∨ 65 ≤ c ∧ c ≤ 90 ∨ 48 ≤ c ∧ c ≤ 57 ∨ c = 95 ∨ 128 ≤ c)) : cls c false = 2 := by
  unfold cls; rw [if_neg (by omega), if_neg (by decide), if_neg h]
theorem cls_zero (c : Int) : cls c true = 0 ↔ c = 32 ∨ c = 9 := by
  unfold cls; split <;> simp_all
theorem cls_one (c : Int) (h : cls c true ≠ 0) : cls c true = 1 := by
  unfold cls at *; split at h <;> simp_all

theorem ret_int {a b : Int} (h : a = b) : Ending.returned (.int .i64 a) = Ending.returned (.int .i64 b) := by rw [h]

/-- A blank. -/
def bl (b : UInt8) : Bool := b == 32 || b == 9
theorem bl_cls {b : UInt8} (h : bl b = true) : cls b.toNat true = 0 := by
  refine cls_blank _ ?_
  simp only [bl, Bool.or_eq_true, beq_iff_eq] at h
  rcases h with rfl | rfl
  · exact .inl rfl
  · exact .inr rfl
theorem nb_cls {b : UInt8} (h : bl b = false) : cls b.toNat true = 1 := by
  simp only [bl, Bool.or_eq_false_iff, beq_eq_false_iff_ne] at h
  refine cls_big (fun e => h.1 ?_) (fun e => h.2 ?_)
  · apply UInt8.toNat_inj.1; have : (32 : UInt8).toNat = 32 := rfl; omega
  · apply UInt8.toNat_inj.1; have : (9 : UInt8).toNat = 9 := rfl; omega

/-- A line's first byte that is no blank, or its last one. -/
def fst (s : ByteArray) : Nat := min (s.data.toList.findIdx fun b => !bl b) (s.size - 1)
theorem list_at (s : ByteArray) (j : Nat) (h : j < s.data.toList.length) : s.data.toList[j] = s[j]'(by rw [size_str] at h; exact h) := rfl
theorem fst_at {s : ByteArray} {k : Nat} (hk : k < s.size) (hb : ∀ q, ∀ hq : q < s.size, q < k → bl s[q] = true) (h : bl s[k] = false) : fst s = k := by
  have hl : k < s.data.toList.length := by rw [size_str]; exact hk
  have : s.data.toList.findIdx (fun b => !bl b) = k := by
    rw [List.findIdx_eq hl]
    refine ⟨by rw [list_at, h]; rfl, fun j hj => ?_⟩
    rw [list_at, hb j (by omega) hj]; rfl
  rw [fst, this]; omega
theorem fst_none {s : ByteArray} (hb : ∀ q, ∀ hq : q < s.size, bl s[q] = true) : fst s = s.size - 1 := by
  have : s.data.toList.findIdx (fun b => !bl b) = s.data.toList.length := by
    rw [List.findIdx_eq_length]
    intro x hx
    obtain ⟨j, hj, rfl⟩ := List.getElem_of_mem hx
    rw [list_at, hb j (by rw [size_str] at hj; exact hj)]; rfl
  rw [fst, this, size_str]; omega

/-- The nearest number from 0 to n - 1 (0 if there is none). -/
def cl (n : Nat) (l : Int) : Nat := (min (max l 0) ((n : Int) - 1)).toNat
theorem cl_lt {n : Nat} (l : Int) (h : 0 < n) : cl n l < n := by unfold cl; omega
theorem cl_cast {n : Nat} (l : Int) (h : 0 < n) : min (max l 0) ((n : Int) - 1) = (cl n l : Int) := by unfold cl; omega
theorem cl_in {n : Nat} {k : Nat} (h : k < n) : cl n k = k := by unfold cl; omega
def lineAt (ls : List ByteArray) (k : Nat) : ByteArray := ls[k]?.getD ⟨#[]⟩
theorem lineAt_get {ls : List ByteArray} {k : Nat} (h : k < ls.length) : lineAt ls k = ls[k] := by simp [lineAt, h]
/-- How far a column may go. -/
def top (s : ByteArray) (past : Bool) : Nat := if past = true then s.size else s.size - 1
/-- The place that is nearest: its line, its column. -/
def clL (ls : List ByteArray) (l : Int) : Nat := cl ls.length l
def clC (ls : List ByteArray) (l c : Int) (past : Bool) : Nat := cl (top (lineAt ls (clL ls l)) past + 1) c
def pos (l c : Int) : Value := .agg #[.int .i64 l, .int .i64 c]

theorem two_new (w : World) (A B : Obj) : ((w.alloc A).alloc B).heap[w.heap.size + 1]? = some B := by
  have h : ((w.alloc A).alloc B).heap[(w.alloc A).heap.size]? = some B := Array.getElem?_push_size
  have e : (w.alloc A).heap.size = w.heap.size + 1 := by simp
  rwa [e] at h
theorem two_below (w : World) (A B : Obj) : Below w.heap.size w ((w.alloc A).alloc B) := ((Below.refl _ w).alloc (Nat.le_refl _) A).alloc (by simp) B
theorem pos_eq {a b c d : Int} (h : a = b) (k : c = d) : Ending.returned (.agg #[.int .i64 a, .int .i64 c]) = Ending.returned (.agg #[.int .i64 b, .int .i64 d]) := by rw [h, k]

theorem clL_nil (l : Int) : clL [] l = 0 := by unfold clL cl; simp; omega
theorem clC_nil (l c : Int) (past : Bool) : clC [] l c past = 0 := by
  unfold clC
  have : top (lineAt [] (clL [] l)) past = 0 := by
    have e : lineAt [] (clL [] l) = ⟨#[]⟩ := by simp [lineAt]
    rw [e]; cases past <;> rfl
  rw [this]; unfold cl; omega

theorem size_any (a : Option Addr) (n c : Nat) (ls : List ByteArray) (w : World) (h : Ss w a n c ls) (hs : tz ls ≤ 4000000000000000000) :
    Calls Try.prog 35 #[.slice a n c] w fun e w' => e = .returned (.int .i64 (tz ls)) ∧ w = w' := by
  have hlen := h.length
  have hn := h.le63
  have hge := tz_ge ls
  go_enter Try.func35, Try.ntmps35
  go_wp2
  go_loop [3, 5, 10] (fun u _ i => ∃ k q : Nat, k ≤ n ∧ i = .int .i64 k ∧ u = .int .i64 q ∧ Hid (q = n + tz (ls.take k) - k) ∧ k ≤ q) (fun u _ i => n - (RowKit.intOf i).toNat)
  case atStart => exact ⟨0, n, Nat.zero_le _, rfl, rfl, by simp [Hid, tz], Nat.zero_le _⟩
  case round =>
    obtain ⟨k, q, hk, rfl, rfl, hq, hkq⟩ := hrel
    have hle := tz_take ls k
    have hlt := tz_ge (ls.take k)
    rw [List.length_take] at hlt
    by_cases hkn : k < n
    · obtain ⟨b, o, rfl, hc, hnc, _⟩ := h.read k (by omega)
      have hnx := tz_next ls k (by omega)
      have hle2 := tz_take ls (k + 1)
      have hqq := hq.out
      generalize ls[k]'(by omega) = st at *
      generalize tz (ls.take k) = z at *
      have hw2 : IntKind.i64.wrap ((q : Int) + (st.size : Int)) = (q : Int) + (st.size : Int) := by rw [IntKind.wrap_i64]; omega
      have HN := Lib.hid hnx
      have HQ := Lib.hid hqq
      have HL := Lib.hid hlt
      clear hnx hqq hq hlt hle hle2
      go_wp2
      go_round
      case rel =>
        have h1 := HN.out
        have h2 := HQ.out
        have h3 := HL.out
        exact ⟨k + 1, q + st.size, by omega, by go_num, by go_num, Lib.hid (by omega), by omega⟩
      case measure => simp [RowKit.intOf]; omega
    · obtain rfl : k = n := by omega
      have HQ := Lib.hid hq.out
      clear hq
      go_wp2
      go_ret
      refine ⟨ret_int ?_, rfl⟩
      have h1 := HQ.out
      rw [← hlen, List.take_length] at h1
      omega

end Go.Proofs.Ytgfajagajiofnaa.Cl
