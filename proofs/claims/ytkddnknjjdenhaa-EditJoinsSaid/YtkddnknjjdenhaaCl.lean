/-
  Package class, and the document's answers to it: classes of bytes, a line's first byte that is no blank, places in a text.
-/
import Derived.Test.YtkddnknjjdenhaaLn
set_option linter.unusedVariables false
set_option linter.unusedSimpArgs false
set_option maxRecDepth 100000
namespace Go.Proofs.Ytkddnknjjdenhaa.Cl
open Go Go.RowKit Go.Proofs.Ytkddnknjjdenhaa.Vk Go.Proofs.Ytkddnknjjdenhaa.Str Go.Proofs.Ytkddnknjjdenhaa.Ln
attribute [local go_sem] Oper.semAt_some

/-- The class of a byte. -/
def cls (c : Int) (big : Bool) : Int :=
  if c = 32 ∨ c = 9 then 0 else if big = true then 1 else if 97 ≤ c ∧ c ≤ 122 ∨ 65 ≤ c ∧ c ≤ 90 ∨ 48 ≤ c ∧ c ≤ 57 ∨ c = 95 ∨ 128 ≤ c then 1 else 2
theorem cls_blank {c : Int} (b : Bool) (h : c = 32 ∨ c = 9) : cls c b = 0 := if_pos h
theorem cls_big {c : Int} (h1 : c ≠ 32) (h2 : c ≠ 9) : cls c true = 1 := by unfold cls; rw [if_neg (by omega), if_pos rfl]
theorem cls_word {c : Int} (h1 : c ≠ 32) (h2 : c ≠ 9) (h : 97 ≤ c ∧ c ≤ 122 ∨ 65 ≤ c ∧ c ≤ 90 ∨ 48 ≤ c ∧ c ≤ 57 ∨ c = 95 ∨ 128 ≤ c) : cls c false = 1 := by
  unfold cls; rw [if_neg (by omega), if_neg (by decide), if_pos h]
theorem cls_other {c : Int} (h1 : c ≠ 32) (h2 : c ≠ 9) (h : ¬ (97 ≤ c ∧ c ≤ 122 ∨ 65 ≤ c ∧ c ≤ 90 ∨ 48 ≤ c ∧ c ≤ 57 ∨ c = 95 ∨ 128 ≤ c)) : cls c false = 2 := by
  unfold cls; rw [if_neg (by omega), if_neg (by decide), if_neg h]
theorem cls_zero (c : Int) : cls c true = 0 ↔ c = 32 ∨ c = 9 := by
  unfold cls; split <;> simp_all
theorem cls_one (c : Int) (h : cls c true ≠ 0) : cls c true = 1 := by
  unfold cls at *; split at h <;> simp_all

theorem of_any (c : Int) (big : Bool) (w : World) : Calls Try.prog 54 #[.int .u8 c, .bool big] w fun e w' => e = .returned (.int .i64 (cls c big)) ∧ w = w' := by
  by_cases h1 : c = 32
  · subst h1
    go_enter Try.func54, Try.ntmps54
    go_wp2
    go_ret
    exact ⟨rfl, rfl⟩
  by_cases h2 : c = 9
  · subst h2
    go_enter Try.func54, Try.ntmps54
    go_wp2
    go_ret
    exact ⟨rfl, rfl⟩
  have b1 : (c == 32) = false := by rw [beq_eq_false_iff_ne]; exact h1
  have b2 : (c == 9) = false := by rw [beq_eq_false_iff_ne]; exact h2
  cases big
  · go_enter Try.func54, Try.ntmps54
    go_wp2
    all_goals go_ret
    all_goals refine ⟨?_, rfl⟩
    all_goals simp only [beq_iff_eq, beq_eq_false_iff_ne, ne_eq] at *
    all_goals first | (rw [cls_word h1 h2 (by omega)]; rfl) | (rw [cls_other h1 h2 (by omega)]; rfl) | rfl
  · have HC := Lib.hid (cls_big h1 h2)
    clear h1 h2
    go_enter Try.func54, Try.ntmps54
    go_wp2
    go_ret
    exact ⟨by rw [HC.out]; rfl, rfl⟩

theorem of5_any (c : Int) (big : Bool) (w : World) : Calls Try.prog 27 #[.int .u8 c, .bool big] w fun e w' => e = .returned (.int .i64 (cls c big)) ∧ w = w' := by
  by_cases h1 : c = 32
  · subst h1
    go_enter Try.func27, Try.ntmps27
    go_wp2
    go_ret
    exact ⟨rfl, rfl⟩
  by_cases h2 : c = 9
  · subst h2
    go_enter Try.func27, Try.ntmps27
    go_wp2
    go_ret
    exact ⟨rfl, rfl⟩
  have b1 : (c == 32) = false := by rw [beq_eq_false_iff_ne]; exact h1
  have b2 : (c == 9) = false := by rw [beq_eq_false_iff_ne]; exact h2
  cases big
  · go_enter Try.func27, Try.ntmps27
    go_wp2
    all_goals go_ret
    all_goals refine ⟨?_, rfl⟩
    all_goals simp only [beq_iff_eq, beq_eq_false_iff_ne, ne_eq] at *
    all_goals first | (rw [cls_word h1 h2 (by omega)]; rfl) | (rw [cls_other h1 h2 (by omega)]; rfl) | rfl
  · have HC := Lib.hid (cls_big h1 h2)
    clear h1 h2
    go_enter Try.func27, Try.ntmps27
    go_wp2
    go_ret
    exact ⟨by rw [HC.out]; rfl, rfl⟩

theorem ret_int {a b : Int} (h : a = b) : Ending.returned (.int .i64 a) = Ending.returned (.int .i64 b) := by rw [h]

theorem last_any (s : ByteArray) (w : World) (hs : s.size ≤ 9223372036854775807) : Calls Try.prog 69 #[.string s] w fun e w' => e = .returned (.int .i64 ((s.size - 1 : Nat) : Int)) ∧ w = w' := by
  have hw : IntKind.i64.wrap ((s.size : Int) - 1) = (s.size : Int) - 1 := by rw [IntKind.wrap_i64]; omega
  go_enter Try.func69, Try.ntmps69
  go_wp2
  all_goals go_ret
  all_goals exact ⟨ret_int (by omega), rfl⟩

theorem within_any (n m : Int) (w : World) : Calls Try.prog 68 #[.int .i64 n, .int .i64 m] w fun e w' => e = .returned (.int .i64 (min (max n 0) m)) ∧ w = w' := by
  go_enter Try.func68, Try.ntmps68
  go_wp2
  all_goals go_ret
  all_goals exact ⟨ret_int (by omega), rfl⟩

/-- A blank. -/
def bl (b : UInt8) : Bool := b == 32 || b == 9
theorem bl_cls {b : UInt8} (h : bl b = true) : cls b.toNat true = 0 := by
  refine cls_blank _ ?_
  simp only [bl, Bool.or_eq_true, beq_iff_eq] at h
  rcases h with rfl | rfl
  · exact .inl rfl
  · exact .inr rfl
theorem nb_cls {b : UInt8} (h : bl b = false) : cls b.toNat true = 1 := by
  simp only [bl, Bool.or_eq_false_iff, beq_eq_false_iff_ne] at h
  refine cls_big (fun e => h.1 ?_) (fun e => h.2 ?_)
  · apply UInt8.toNat_inj.1; have : (32 : UInt8).toNat = 32 := rfl; omega
  · apply UInt8.toNat_inj.1; have : (9 : UInt8).toNat = 9 := rfl; omega

/-- A line's first byte that is no blank, or its last one. -/
def fst (s : ByteArray) : Nat := min (s.data.toList.findIdx fun b => !bl b) (s.size - 1)
theorem list_at (s : ByteArray) (j : Nat) (h : j < s.data.toList.length) : s.data.toList[j] = s[j]'(by rw [size_str] at h; exact h) := rfl
theorem fst_at {s : ByteArray} {k : Nat} (hk : k < s.size) (hb : ∀ q, ∀ hq : q < s.size, q < k → bl s[q] = true) (h : bl s[k] = false) : fst s = k := by
  have hl : k < s.data.toList.length := by rw [size_str]; exact hk
  have : s.data.toList.findIdx (fun b => !bl b) = k := by
    rw [List.findIdx_eq hl]
    refine ⟨by rw [list_at, h]; rfl, fun j hj => ?_⟩
    rw [list_at, hb j (by omega) hj]; rfl
  rw [fst, this]; omega
theorem fst_none {s : ByteArray} (hb : ∀ q, ∀ hq : q < s.size, bl s[q] = true) : fst s = s.size - 1 := by
  have : s.data.toList.findIdx (fun b => !bl b) = s.data.toList.length := by
    rw [List.findIdx_eq_length]
    intro x hx
    obtain ⟨j, hj, rfl⟩ := List.getElem_of_mem hx
    rw [list_at, hb j (by rw [size_str] at hj; exact hj)]; rfl
  rw [fst, this, size_str]; omega

/-- The nearest number from 0 to n - 1 (0 if there is none). -/
def cl (n : Nat) (l : Int) : Nat := (min (max l 0) ((n : Int) - 1)).toNat
theorem cl_lt {n : Nat} (l : Int) (h : 0 < n) : cl n l < n := by unfold cl; omega
theorem cl_cast {n : Nat} (l : Int) (h : 0 < n) : min (max l 0) ((n : Int) - 1) = (cl n l : Int) := by unfold cl; omega
theorem cl_in {n : Nat} {k : Nat} (h : k < n) : cl n k = k := by unfold cl; omega
def lineAt (ls : List ByteArray) (k : Nat) : ByteArray := ls[k]?.getD ⟨#[]⟩
theorem lineAt_get {ls : List ByteArray} {k : Nat} (h : k < ls.length) : lineAt ls k = ls[k] := by simp [lineAt, h]
/-- How far a column may go. -/
def top (s : ByteArray) (past : Bool) : Nat := if past = true then s.size else s.size - 1
/-- The place that is nearest: its line, its column. -/
def clL (ls : List ByteArray) (l : Int) : Nat := cl ls.length l
def clC (ls : List ByteArray) (l c : Int) (past : Bool) : Nat := cl (top (lineAt ls (clL ls l)) past + 1) c
def pos (l c : Int) : Value := .agg #[.int .i64 l, .int .i64 c]

theorem two_new (w : World) (A B : Obj) : ((w.alloc A).alloc B).heap[w.heap.size + 1]? = some B := by
  have h : ((w.alloc A).alloc B).heap[(w.alloc A).heap.size]? = some B := Array.getElem?_push_size
  have e : (w.alloc A).heap.size = w.heap.size + 1 := by simp
  rwa [e] at h
theorem two_below (w : World) (A B : Obj) : Below w.heap.size w ((w.alloc A).alloc B) := ((Below.refl _ w).alloc (Nat.le_refl _) A).alloc (by simp) B
/-- A place is handed back out of its variable. -/
theorem ret_pos {fn : Func} {p : Tmp} {a : Act} {w : World} {A : Obj} {fr : Nat × Nat} {l c : Int} {Q : Ending → World → Prop} (hr : fn.results = #[.cell p 24]) (hp : a.tmps.getD p undef = .pointer (some ⟨w.heap.size + 1, 0, none⟩)) (hd : a.defers = [])
    (h : Q (.returned (.agg #[.int .i64 l, .int .i64 c])) ((w.alloc A).alloc (.cells #[.int .i64 l, .int .i64 c] 24 fr))) :
    bodyPost Try.prog fn Q Exit.ret a ((w.alloc A).alloc (.cells #[.int .i64 l, .int .i64 c] 24 fr)) :=
  bodyPost_ret (results_cell_row hr _ _ (w.heap.size + 1) _ #[.int .i64 l, .int .i64 c] _ _ hp (two_new w _ _) Try.underlying24 rfl (by kernel_rfl)) hd h

theorem clamp_none (a : Option Addr) (c' : Nat) (l c : Int) (past : Bool) (w : World) : Calls Try.prog 52 #[.slice a 0 c', .agg #[.int .i64 l, .int .i64 c], .bool past] w fun e w' => e = .returned (.agg #[.int .i64 0, .int .i64 0]) ∧ Below w.heap.size w w' := by
  go_enter Try.func52, Try.ntmps52
  go_wp2
  exact ret_pos rfl rfl rfl ⟨rfl, two_below _ _ _⟩

theorem clamp_some (a : Option Addr) (n c' : Nat) (ls : List ByteArray) (l c : Int) (past : Bool) (w : World) (h : Ss w a n c' ls) (h0 : 0 < n) (hs : ∀ s ∈ ls, s.size ≤ 140737488355328) :
    Calls Try.prog 52 #[.slice a n c', .agg #[.int .i64 l, .int .i64 c], .bool past] w fun e w' => e = .returned (.agg #[.int .i64 (clL ls l), .int .i64 (clC ls l c past)]) ∧ Below w.heap.size w w' := by
  have hlen := h.length
  have hn := h.le63
  have hi := cl_lt l h0
  have hcl := cl_cast l h0
  have hwi := fun W => within_any l ((n : Int) - 1) W
  have hw1 : IntKind.i64.wrap ((n : Int) - 1) = (n : Int) - 1 := by rw [IntKind.wrap_i64]; omega
  rw [hcl] at hwi
  have hL : clL ls l = cl n l := by rw [clL, hlen]
  have hC : clC ls l c past = cl (top (lineAt ls (cl n l)) past + 1) c := by rw [clC, hL]
  rw [hL, hC]
  clear hL hC hcl
  generalize cl n l = i at *
  obtain ⟨b, o, rfl, hc, hnc, _⟩ := h.read i (by omega)
  have hls := lineAt_get (ls := ls) (k := i) (by omega)
  have hsz := hs (ls[i]'(by omega)) (List.getElem_mem (by omega))
  rw [← hls] at hc hsz
  clear h hs hls
  generalize lineAt ls i = s at *
  have hla := fun W => last_any s W (by omega)
  have hw2 := fun W => within_any c (top s past) W
  rw [show min (max c 0) (top s past : Int) = (cl (top s past + 1) c : Int) from by rw [← cl_cast _ (by omega)]; congr 1; omega] at hw2
  generalize cl (top s past + 1) c = C at *
  have hz : ((n : Int) == 0) = false := by rw [beq_eq_false_iff_ne]; omega
  have hc2 : ∀ O O', ((w.alloc O).alloc O').cell? ⟨b, o + i, none⟩ = some (.string s) := fun O O' => cell_later (((Below.refl _ w).alloc (Nat.le_refl _) O).alloc (by simp) O') hc
  go_enter Try.func52, Try.ntmps52
  go_wp2_with fail
  refine (hwi _).mono ?_
  rintro e w' ⟨rfl, rfl⟩
  clear hwi
  go_wp2_with fail
  refine (hla _).mono ?_
  rintro e w' ⟨rfl, rfl⟩
  clear hla
  cases past
  · go_wp2_with fail
    refine (hw2 _).mono ?_
    rintro e w' ⟨rfl, rfl⟩
    clear hw2
    go_wp2
    exact ret_pos rfl rfl rfl ⟨rfl, two_below _ _ _⟩
  · go_wp2_with fail
    refine (hw2 _).mono ?_
    rintro e w' ⟨rfl, rfl⟩
    clear hw2
    go_wp2
    exact ret_pos rfl rfl rfl ⟨rfl, two_below _ _ _⟩

theorem pos_eq {a b c d : Int} (h : a = b) (k : c = d) : Ending.returned (.agg #[.int .i64 a, .int .i64 c]) = Ending.returned (.agg #[.int .i64 b, .int .i64 d]) := by rw [h, k]

theorem clL_nil (l : Int) : clL [] l = 0 := by unfold clL cl; simp; omega
theorem clC_nil (l c : Int) (past : Bool) : clC [] l c past = 0 := by
  unfold clC
  have : top (lineAt [] (clL [] l)) past = 0 := by
    have e : lineAt [] (clL [] l) = ⟨#[]⟩ := by simp [lineAt]
    rw [e]; cases past <;> rfl
  rw [this]; unfold cl; omega

/-- Clamp, of any lines. -/
theorem clamp_any (a : Option Addr) (n c' : Nat) (ls : List ByteArray) (l c : Int) (past : Bool) (w : World) (h : Ss w a n c' ls) (hs : ∀ s ∈ ls, s.size ≤ 140737488355328) :
    Calls Try.prog 52 #[.slice a n c', .agg #[.int .i64 l, .int .i64 c], .bool past] w fun e w' => e = .returned (.agg #[.int .i64 (clL ls l), .int .i64 (clC ls l c past)]) ∧ Below w.heap.size w w' := by
  by_cases h0 : 0 < n
  · exact clamp_some a n c' ls l c past w h h0 hs
  · obtain rfl : n = 0 := by omega
    obtain rfl : ls = [] := List.length_eq_zero_iff.1 h.length
    rw [clL_nil, clC_nil]
    exact clamp_none a c' l c past w
end Go.Proofs.Ytkddnknjjdenhaa.Cl
