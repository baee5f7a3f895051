/-
  Package words: its helps that need no iterator.
-/
import Derived.Test.YtdgckgfbdplnpaaZl
import Derived.Test.YtdgckgfbdplnpaaQt
set_option linter.unusedVariables false
set_option linter.unusedSimpArgs false
set_option maxRecDepth 100000
namespace Go.Proofs.Ytdgckgfbdplnpaa.Wd
open Go Go.RowKit Go.Proofs.Ytdgckgfbdplnpaa.Vk Go.Proofs.Ytdgckgfbdplnpaa.Str Go.Proofs.Ytdgckgfbdplnpaa.Ln Go.Proofs.Ytdgckgfbdplnpaa.Cl Go.Proofs.Ytdgckgfbdplnpaa.Mv
attribute [local go_sem] Oper.semAt_some

theorem counted_any (n : Int) (w : World) : Calls Try.prog 35 #[.int .i64 n] w fun e w' => e = .returned (.int .i64 (min n 1073741824)) ∧ w = w' := by
  go_enter Try.func35, Try.ntmps35
  go_wp2
  all_goals go_ret
  all_goals exact ⟨ret_int (by omega), rfl⟩

theorem begins_any (s : ByteArray) (j : Nat) (big : Bool) (w : World) (hj : j < s.size) (hz : s.size ≤ 9223372036854775807) :
    Calls Try.prog 48 #[.string s, .int .i64 j, .bool big] w fun e w' => e = .returned (.bool (beg big s j)) ∧ w = w' := by
  have h1 := fun W => of_any ((s[j]'hj).toNat) big W
  rw [kl_at] at h1
  have hd : beg big s j = (decide (kl s big j ≠ 0) && (decide (j = 0) || decide (kl s big (j - 1) ≠ kl s big j))) := rfl
  rw [hd]
  by_cases h0 : kl s big j = 0
  · rw [h0] at h1 ⊢
    clear hd h0
    go_enter Try.func48, Try.ntmps48
    go_wp2_with fail
    refine (h1 _).mono ?_
    rintro e w' ⟨rfl, rfl⟩
    clear h1
    go_wp2
    go_ret
    exact ⟨rfl, rfl⟩
  · have a0 : (kl s big j == 0) = false := by rw [beq_eq_false_iff_ne]; exact h0
    have a1 : (kl s big j != 0) = true := by rw [bne_iff_ne]; exact h0
    by_cases hj0 : j = 0
    · subst hj0
      rw [decide_eq_true h0]
      generalize kl s big 0 = A at *
      clear hd h0
      go_enter Try.func48, Try.ntmps48
      go_wp2_with fail
      refine (h1 _).mono ?_
      rintro e w' ⟨rfl, rfl⟩
      clear h1
      go_wp2
      go_ret
      exact ⟨rfl, rfl⟩
    · obtain ⟨k, hkj⟩ : ∃ k, k = j - 1 := ⟨_, rfl⟩
      have hk : k < s.size := by omega
      have h2 := fun W => of_any ((s[k]'hk).toNat) big W
      rw [kl_at] at h2
      rw [decide_eq_true h0, decide_eq_false hj0, ← hkj]
      have hw : IntKind.i64.wrap ((j : Int) - 1) = (k : Int) := by rw [IntKind.wrap_i64]; omega
      have b0 : ((j : Int) == 0) = false := by rw [beq_eq_false_iff_ne]; omega
      generalize kl s big j = A at *
      generalize kl s big k = B at *
      clear hd h0 hj0 hkj
      go_enter Try.func48, Try.ntmps48
      go_wp2_with fail
      refine (h1 _).mono ?_
      rintro e w' ⟨rfl, rfl⟩
      clear h1
      go_wp2_with fail
      refine (h2 _).mono ?_
      rintro e w' ⟨rfl, rfl⟩
      clear h2
      go_wp2
      go_ret
      exact ⟨So.ret_bool (by by_cases hAB : B = A <;> simp [hAB]), rfl⟩

theorem finishes_any (s : ByteArray) (j : Nat) (big : Bool) (w : World) (hj : j < s.size) (hz : s.size ≤ 9223372036854775807) :
    Calls Try.prog 50 #[.string s, .int .i64 j, .bool big] w fun e w' => e = .returned (.bool (fin big s j)) ∧ w = w' := by
  have h1 := fun W => of_any ((s[j]'hj).toNat) big W
  rw [kl_at] at h1
  have hd : fin big s j = (decide (kl s big j ≠ 0) && (decide (j + 1 = s.size) || decide (kl s big (j + 1) ≠ kl s big j))) := rfl
  rw [hd]
  have hw1 : IntKind.i64.wrap ((s.size : Int) - 1) = (s.size : Int) - 1 := by rw [IntKind.wrap_i64]; omega
  by_cases h0 : kl s big j = 0
  · rw [h0] at h1 ⊢
    clear hd h0
    go_enter Try.func50, Try.ntmps50
    go_wp2_with fail
    refine (h1 _).mono ?_
    rintro e w' ⟨rfl, rfl⟩
    clear h1
    go_wp2
    go_ret
    exact ⟨rfl, rfl⟩
  · have a0 : (kl s big j == 0) = false := by rw [beq_eq_false_iff_ne]; exact h0
    have a1 : (kl s big j != 0) = true := by rw [bne_iff_ne]; exact h0
    by_cases hj0 : j + 1 = s.size
    · have b0 : ((j : Int) == (s.size : Int) - 1) = true := by rw [beq_iff_eq]; omega
      rw [decide_eq_true h0, decide_eq_true hj0]
      generalize kl s big j = A at *
      clear hd h0 hj0
      go_enter Try.func50, Try.ntmps50
      go_wp2_with fail
      refine (h1 _).mono ?_
      rintro e w' ⟨rfl, rfl⟩
      clear h1
      go_wp2
      go_ret
      exact ⟨rfl, rfl⟩
    · obtain ⟨k, hkj⟩ : ∃ k, k = j + 1 := ⟨_, rfl⟩
      have hk : k < s.size := by omega
      have h2 := fun W => of_any ((s[k]'hk).toNat) big W
      rw [kl_at] at h2
      rw [decide_eq_true h0, decide_eq_false hj0, ← hkj]
      have hw : IntKind.i64.wrap ((j : Int) + 1) = (k : Int) := by rw [IntKind.wrap_i64]; omega
      have b0 : ((j : Int) == (s.size : Int) - 1) = false := by rw [beq_eq_false_iff_ne]; omega
      generalize kl s big j = A at *
      generalize kl s big k = B at *
      clear hd h0 hj0 hkj
      go_enter Try.func50, Try.ntmps50
      go_wp2_with fail
      refine (h1 _).mono ?_
      rintro e w' ⟨rfl, rfl⟩
      clear h1
      go_wp2_with fail
      refine (h2 _).mono ?_
      rintro e w' ⟨rfl, rfl⟩
      clear h2
      go_wp2
      go_ret
      exact ⟨So.ret_bool (by by_cases hAB : B = A <;> simp [hAB]), rfl⟩

theorem plc_cl {ls : List ByteArray} {l c : Int} (h : 0 < ls.length) : (decide ((clL ls l : Int) = l) && decide ((clC ls l c true : Int) = c)) = decide (Plc ls l c) := by
  rw [Bool.eq_iff_iff]
  simp only [Bool.and_eq_true, decide_eq_true_eq]
  unfold clC clL Plc top
  rw [if_pos rfl]
  have hl := cl_lt l h
  constructor
  · rintro ⟨h1, h2⟩
    have e : cl ls.length l = l.toNat := by omega
    rw [e] at h2
    generalize (lineAt ls l.toNat).size = z at *
    unfold cl at h2
    omega
  · rintro ⟨h1, h2, h3, h4⟩
    have e : cl ls.length l = l.toNat := by unfold cl; omega
    rw [e]
    generalize (lineAt ls l.toNat).size = z at *
    unfold cl
    omega

theorem inside_any (a : Option Addr) (n c' : Nat) (ls : List ByteArray) (l c : Int) (w : World) (h : Ss w a n c' ls) (hs : ∀ s ∈ ls, s.size ≤ 140737488355328) :
    Calls Try.prog 32 #[.slice a n c', .agg #[.int .i64 l, .int .i64 c]] w fun e w' => e = .returned (.bool (decide (Plc ls l c))) ∧ Below w.heap.size w w' := by
  have hlen := h.length
  obtain ⟨X, hX⟩ : ∃ X, X = w.alloc (.cells #[.int .i64 l, .int .i64 c] 35) := ⟨_, rfl⟩
  have hb0 : Below w.heap.size w X := by rw [hX]; exact (Below.refl _ w).alloc (Nat.le_refl _) _
  have hp : PosAt X w.heap.size l c := by rw [hX]; exact PosAt.new w l c
  have HX := Lib.hid hX
  have HB := Lib.hid hb0
  by_cases h0 : 0 < n
  · have f0 := fun z : Gr X => z.cell hp.c0
    have f1 := fun z : Gr X => z.cell hp.c1
    have hx := SrcV.below h hb0
    have h5 := fun z : Gr X => clamp_any a n c' ls l c true z.W (SrcV.below hx z.below) hs
    have he := fun W => eq_pos (clL ls l) (clC ls l c true) l c W
    have d0 : decide (0 < n) = true := decide_eq_true h0
    rw [← plc_cl (by omega)]
    clear h hx hX hb0 hs hp hlen
    go_enter Try.func32, Try.ntmps32
    go_wp2
    rw [← HX.out]
    refine wp_region_grow (by kernel_rfl) (by kernel_rfl) ?_
    repeat (go_big_quiet_step (first | (go_at_call 51; exact Calls.grow_of (h5 _))))
    refine wpQuiet_nil ?_
    rintro _ ⟨⟨X5, hX5⟩, rfl⟩
    go_wp2
    go_ret
    exact ⟨rfl, HB.out.trans (hX5.mono HB.out.size)⟩
  · obtain rfl : n = 0 := by omega
    have hd : decide (Plc ls l c) = false := decide_eq_false fun hp => by have := hp.1; have := hp.2.1; omega
    rw [hd]
    clear h hX hb0 hs hp hlen hd
    go_enter Try.func32, Try.ntmps32
    go_wp2
    rw [← HX.out]
    refine wp_region_grow (by kernel_rfl) (by kernel_rfl) ?_
    repeat (go_big_quiet_step (fail))
    refine wpQuiet_nil ?_
    rintro _ ⟨⟨X5, hX5⟩, rfl⟩
    go_wp2
    go_ret
    exact ⟨rfl, HB.out.trans (hX5.mono HB.out.size)⟩

theorem end_any (a : Option Addr) (n c' : Nat) (ls : List ByteArray) (i : Nat) (w : World) (h : Ss w a n c' ls) (hi : i < n) :
    Calls Try.prog 54 #[.slice a n c', .int .i64 i] w fun e w' => e = .returned (.agg #[.int .i64 i, .int .i64 ((lineAt ls i).size : Nat)]) ∧ Below w.heap.size w w' := by
  have hlen := h.length
  have hn := h.le63
  obtain ⟨b, o, rfl, hc, hnc, _⟩ := h.read i (by omega)
  have hlt := lineAt_get (ls := ls) (k := i) (by omega)
  rw [← hlt] at hc
  have hc2 := cell_one hc
  clear hlt h hlen
  generalize lineAt ls i = s at *
  go_enter Try.func54, Try.ntmps54
  go_wp2
  exact bodyPost_ret (results_cell_row (P := Try.prog) rfl _ _ w.heap.size _ #[.int .i64 (i : Int), .int .i64 (s.size : Int)] _ _ rfl (heap_alloc_new w _) Try.underlying35 rfl (by kernel_rfl)) rfl ⟨rfl, (Below.refl _ w).alloc (Nat.le_refl _) _⟩

theorem end5_any (a : Option Addr) (n c' : Nat) (ls : List ByteArray) (w : World) (h : Ss w a n c' ls) (h0 : 0 < n) :
    Calls Try.prog 42 #[.slice a n c'] w fun e w' => e = .returned (.agg #[.int .i64 (endP ls (ls.length - 1)).1, .int .i64 (endP ls (ls.length - 1)).2]) ∧ Below w.heap.size w w' := by
  have hlen := h.length
  have hn := h.le63
  obtain ⟨i, hi⟩ : ∃ i, i = n - 1 := ⟨_, rfl⟩
  obtain ⟨b, o, rfl, hc, hnc, _⟩ := h.read i (by omega)
  have hlt := lineAt_get (ls := ls) (k := i) (by omega)
  rw [← hlt] at hc
  have hc2 := cell_one hc
  rw [hlen, ← hi]
  unfold endP
  have hw : IntKind.i64.wrap ((n : Int) - 1) = (i : Int) := by rw [IntKind.wrap_i64]; omega
  have hin : i < n := by omega
  clear hlt h hlen hi
  generalize lineAt ls i = s at *
  go_enter Try.func42, Try.ntmps42
  go_wp2
  exact bodyPost_ret (results_cell_row (P := Try.prog) rfl _ _ w.heap.size _ #[.int .i64 (i : Int), .int .i64 (s.size : Int)] _ _ rfl (heap_alloc_new w _) Try.underlying35 rfl (by kernel_rfl)) rfl ⟨rfl, (Below.refl _ w).alloc (Nat.le_refl _) _⟩

theorem moved_any (x : P2) (way : Int) (ok : Bool) (w : World) : Calls Try.prog 36 #[.agg #[.int .i64 x.1, .int .i64 x.2], .int .i64 way, .bool ok] w fun e w' => e = .returned (mvd (x, ok) way).v ∧ Below w.heap.size w w' := by
  cases ok
  · go_enter Try.func36, Try.ntmps36
    go_wp2
    exact ret_mv (r := R.no) (g := w.heap.size + 1) rfl rfl rfl rfl (two_new w _ _) ⟨rfl, two_below _ _ _⟩
  · go_enter Try.func36, Try.ntmps36
    go_wp2
    exact ret_mv (r := ⟨x.1, x.2, way, false, -1, true⟩) (g := w.heap.size + 1) rfl rfl rfl rfl (two_new w _ _) ⟨rfl, two_below _ _ _⟩
end Go.Proofs.Ytdgckgfbdplnpaa.Wd
