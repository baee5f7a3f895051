/-
  Package find: the small functions (inside, counted, turned, lettered); the document's jump.
-/
import Derived.Test.YthlneojhkhhmbaaFl
import Derived.Test.YthlneojhkhhmbaaZa
import Derived.Test.YthlneojhkhhmbaaTw
set_option linter.unusedVariables false
set_option linter.unusedSimpArgs false
set_option maxRecDepth 100000
namespace Go.Proofs.Ythlneojhkhhmbaa.Fd
open Go Go.RowKit Go.Proofs.Ythlneojhkhhmbaa.Vk Go.Proofs.Ythlneojhkhhmbaa.Str Go.Proofs.Ythlneojhkhhmbaa.Ln Go.Proofs.Ythlneojhkhhmbaa.Cl Go.Proofs.Ythlneojhkhhmbaa.Mv Go.Proofs.Ythlneojhkhhmbaa.Wd Go.Shelf
attribute [local go_sem] Oper.semAt_some

theorem counted_any (n : Int) (w : World) : Calls Try.prog 29 #[.int .i64 n] w fun e w' => e = .returned (.int .i64 (min n 1073741824)) ∧ w = w' := by
  go_enter Try.func29, Try.ntmps29
  go_wp2
  all_goals go_ret
  all_goals exact ⟨ret_int (by omega), rfl⟩
theorem inside_any (a : Option Addr) (n c' : Nat) (ls : List ByteArray) (l c : Int) (w : World) (h : Ss w a n c' ls) (hs : ∀ s ∈ ls, s.size ≤ 140737488355328) :
    Calls Try.prog 26 #[.slice a n c', .agg #[.int .i64 l, .int .i64 c]] w fun e w' => e = .returned (.bool (decide (Plc ls l c))) ∧ Below w.heap.size w w' := by
  have hlen := h.length
  obtain ⟨X, hX⟩ : ∃ X, X = w.alloc (.cells #[.int .i64 l, .int .i64 c] 27) := ⟨_, rfl⟩
  have hb0 : Below w.heap.size w X := by rw [hX]; exact (Below.refl _ w).alloc (Nat.le_refl _) _
  have hp : PosAt X w.heap.size l c := by rw [hX]; exact PosAt.new w l c
  have HX := Lib.hid hX
  have HB := Lib.hid hb0
  by_cases h0 : 0 < n
  · have f0 := fun z : Gr X => z.cell hp.c0
    have f1 := fun z : Gr X => z.cell hp.c1
    have hx := SrcV.below h hb0
    have h5 := fun z : Gr X => clamp_any a n c' ls l c true z.W (SrcV.below hx z.below) hs
    have he := fun W => eq_pos (clL ls l) (clC ls l c true) l c W
    have d0 : decide (0 < n) = true := decide_eq_true h0
    rw [← plc_cl (by omega)]
    clear h hx hX hb0 hs hp hlen
    go_enter Try.func26, Try.ntmps26
    go_wp2
    rw [← HX.out]
    refine wp_region_grow (by kernel_rfl) (by kernel_rfl) ?_
    repeat (go_big_quiet_step (first | (go_at_call 40; exact Calls.grow_of (h5 _))))
    refine wpQuiet_nil ?_
    rintro _ ⟨⟨X5, hX5⟩, rfl⟩
    go_wp2
    go_ret
    exact ⟨rfl, HB.out.trans (hX5.mono HB.out.size)⟩
  · obtain rfl : n = 0 := by omega
    have hd : decide (Plc ls l c) = false := decide_eq_false fun hp => by have := hp.1; have := hp.2.1; omega
    rw [hd]
    clear h hX hb0 hs hp hlen hd
    go_enter Try.func26, Try.ntmps26
    go_wp2
    rw [← HX.out]
    refine wp_region_grow (by kernel_rfl) (by kernel_rfl) ?_
    repeat (go_big_quiet_step (fail))
    refine wpQuiet_nil ?_
    rintro _ ⟨⟨X5, hX5⟩, rfl⟩
    go_wp2
    go_ret
    exact ⟨rfl, HB.out.trans (hX5.mono HB.out.size)⟩

theorem jump5_any (l c : Int) (w : World) : Calls Try.prog 35 #[.agg #[.int .i64 l, .int .i64 c]] w fun e w' => e = .returned (.tuple #[mvv l c 0 true (-1), .bool true]) ∧ Below w.heap.size w w' := by
  go_enter Try.func35, Try.ntmps35
  go_wp2
  exact ret_mv (r := ⟨l, c, 0, true, -1, true⟩) (g := w.heap.size + 1) rfl rfl rfl rfl (two_new w _ _) ⟨rfl, two_below _ _ _⟩


theorem lettered_any (c : Int) (w : World) : Calls Try.prog 37 #[.int .u8 c] w fun e w' => e = .returned (.bool (decide (cls c false = 1))) ∧ w = w' := by
  have h1 := of_any c false w
  generalize cls c false = q at *
  by_cases hq : q = 1
  · subst hq
    go_enter Try.func37, Try.ntmps37
    go_wp2_with fail
    refine h1.mono ?_
    rintro e w' ⟨rfl, rfl⟩
    clear h1
    go_wp2
    go_ret
    exact ⟨rfl, rfl⟩
  · have hb : (q == 1) = false := by rw [beq_eq_false_iff_ne]; exact hq
    rw [decide_eq_false hq]
    clear hq
    go_enter Try.func37, Try.ntmps37
    go_wp2_with fail
    refine h1.mono ?_
    rintro e w' ⟨rfl, rfl⟩
    clear h1
    go_wp2
    go_ret
    exact ⟨rfl, rfl⟩
theorem lettered_at (s : ByteArray) (j : Nat) (hj : j < s.size) (w : World) : Calls Try.prog 37 #[.int .u8 ((s[j]'hj).toNat : Int)] w fun e w' => e = .returned (.bool (ltr s j)) ∧ w = w' := by
  have h := lettered_any ((s[j]'hj).toNat) w
  rw [kl_at] at h
  exact h
theorem of5_at (s : ByteArray) (j : Nat) (hj : j < s.size) (w : World) : Calls Try.prog 22 #[.int .u8 ((s[j]'hj).toNat : Int), .bool false] w fun e w' => e = .returned (.int .i64 (kl s false j)) ∧ w = w' := by
  have h := of5_any ((s[j]'hj).toNat) false w
  rw [kl_at] at h
  exact h

theorem turned_any (f size n : Nat) (back : Bool) (w : World) (h0 : 0 < size) (h1 : size ≤ 1000000) (hf : f ≤ size) (hn : 1 ≤ n) (hn2 : n ≤ 1073741824) :
    Calls Try.prog 28 #[.int .i64 f, .int .i64 size, .int .i64 n, .bool back] w fun e w' => e = .returned (.int .i64 (trn f size n back)) ∧ w = w' := by
  obtain ⟨K, hK⟩ : ∃ K, K = n - 1 := ⟨_, rfl⟩
  obtain ⟨s, hs⟩ : ∃ s, s = K % size := ⟨_, rfl⟩
  have hsl : s < size := by rw [hs]; exact Nat.mod_lt _ h0
  have hw1 : IntKind.i64.wrap ((n : Int) - 1) = (K : Int) := by rw [IntKind.wrap_i64]; omega
  have hm1 : (K : Int) % (size : Int) = (s : Int) := by rw [hs]; omega
  have hm2 : (K : Int).tmod (size : Int) = (s : Int) := by rw [Int.tmod_eq_emod_of_nonneg (by omega)]; exact hm1
  have hz : ((size : Int) == 0) = false := by rw [beq_eq_false_iff_ne]; omega
  have hz2 : ¬ (size : Int) = 0 := by omega
  have hz3 : ¬ size = 0 := by omega
  unfold trn
  rw [← hK, ← hs]
  cases back
  · rw [if_neg (by simp)]
    obtain ⟨e, he⟩ : ∃ e, e = f + s := ⟨_, rfl⟩
    obtain ⟨t, ht⟩ : ∃ t, t = e % size := ⟨_, rfl⟩
    rw [← he, ← ht]
    have hw2 : IntKind.i64.wrap ((f : Int) + (s : Int)) = (e : Int) := by rw [IntKind.wrap_i64]; omega
    have hm3 : (e : Int) % (size : Int) = (t : Int) := by rw [ht]; omega
    have hm4 : (e : Int).tmod (size : Int) = (t : Int) := by rw [Int.tmod_eq_emod_of_nonneg (by omega)]; exact hm3
    clear hK hs hsl he ht hn hn2 hf h1 h0
    go_enter Try.func28, Try.ntmps28
    go_wp2
    go_ret
    exact ⟨rfl, rfl⟩
  · rw [if_pos rfl]
    obtain ⟨e, he⟩ : ∃ e, e = f + size - 1 - s := ⟨_, rfl⟩
    obtain ⟨t, ht⟩ : ∃ t, t = e % size := ⟨_, rfl⟩
    rw [← he, ← ht]
    obtain ⟨x1, hx1⟩ : ∃ x : Int, x = (f : Int) - 1 := ⟨_, rfl⟩
    obtain ⟨x2, hx2⟩ : ∃ x : Int, x = x1 - (s : Int) := ⟨_, rfl⟩
    have hw2 : IntKind.i64.wrap ((f : Int) - 1) = x1 := by rw [IntKind.wrap_i64]; omega
    have hw3 : IntKind.i64.wrap (x1 - (s : Int)) = x2 := by rw [IntKind.wrap_i64]; omega
    have hw4 : IntKind.i64.wrap (x2 + (size : Int)) = (e : Int) := by rw [IntKind.wrap_i64]; omega
    have hm3 : (e : Int) % (size : Int) = (t : Int) := by rw [ht]; omega
    have hm4 : (e : Int).tmod (size : Int) = (t : Int) := by rw [Int.tmod_eq_emod_of_nonneg (by omega)]; exact hm3
    clear hK hs hsl he ht hn hn2 hf h1 h0 hx1 hx2
    go_enter Try.func28, Try.ntmps28
    go_wp2
    go_ret
    exact ⟨rfl, rfl⟩
end Go.Proofs.Ythlneojhkhhmbaa.Fd
