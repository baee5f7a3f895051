/-
  Package chars: counted, exclusive, inside, end.
-/
import Derived.Test.YtaekgempoaoioaaMp
set_option linter.unusedVariables false
set_option linter.unusedSimpArgs false
set_option maxRecDepth 100000
namespace Go.Proofs.Ytaekgempoaoioaa.Ch
open Go Go.RowKit Go.Proofs.Ytaekgempoaoioaa.Vk Go.Proofs.Ytaekgempoaoioaa.Str Go.Proofs.Ytaekgempoaoioaa.Ln Go.Proofs.Ytaekgempoaoioaa.Cl Go.Proofs.Ytaekgempoaoioaa.Mv
attribute [local go_sem] Oper.semAt_some

theorem counted_any (n : Int) (w : World) : Calls Try.prog 30 #[.int .i64 n] w fun e w' => e = .returned (.int .i64 (min n 1073741824)) ∧ w = w' := by
  go_enter Try.func30, Try.ntmps30
  go_wp2
  all_goals go_ret
  all_goals exact ⟨ret_int (by omega), rfl⟩

theorem exclusive_any (l c : Int) (w : World) : Calls Try.prog 29 #[.int .i64 l, .int .i64 c] w fun e w' => e = .returned (mvv l c 0 false (-1)) ∧ Below w.heap.size w w' := by
  go_enter Try.func29, Try.ntmps29
  go_wp2
  exact bodyPost_ret (results_cell_row (P := Try.prog) rfl _ _ w.heap.size _ #[.int .i64 l, .int .i64 c, .int .i64 0, .bool false, .int .i64 (-1)] _ _ rfl (heap_alloc_new w _) Try.underlying32 rfl (by kernel_rfl)) rfl ⟨rfl, (Below.refl _ w).alloc (Nat.le_refl _) _⟩

theorem plc_cl {ls : List ByteArray} {l c : Int} (h : 0 < ls.length) : (decide ((clL ls l : Int) = l) && decide ((clC ls l c true : Int) = c)) = decide (Plc ls l c) := by
  rw [Bool.eq_iff_iff]
  simp only [Bool.and_eq_true, decide_eq_true_eq]
  unfold clC clL Plc top
  rw [if_pos rfl]
  have hl := cl_lt l h
  constructor
  · rintro ⟨h1, h2⟩
    have e : cl ls.length l = l.toNat := by omega
    rw [e] at h2
    generalize (lineAt ls l.toNat).size = z at *
    unfold cl at h2
    omega
  · rintro ⟨h1, h2, h3, h4⟩
    have e : cl ls.length l = l.toNat := by unfold cl; omega
    rw [e]
    generalize (lineAt ls l.toNat).size = z at *
    unfold cl
    omega

theorem inside_any (a : Option Addr) (n c' : Nat) (ls : List ByteArray) (l c : Int) (w : World) (h : Ss w a n c' ls) (hs : ∀ s ∈ ls, s.size ≤ 140737488355328) :
    Calls Try.prog 28 #[.slice a n c', .agg #[.int .i64 l, .int .i64 c]] w fun e w' => e = .returned (.bool (decide (Plc ls l c))) ∧ Below w.heap.size w w' := by
  have hlen := h.length
  obtain ⟨X, hX⟩ : ∃ X, X = w.alloc (.cells #[.int .i64 l, .int .i64 c] 24) := ⟨_, rfl⟩
  have hb0 : Below w.heap.size w X := by rw [hX]; exact (Below.refl _ w).alloc (Nat.le_refl _) _
  have hp : PosAt X w.heap.size l c := by rw [hX]; exact PosAt.new w l c
  have HX := Lib.hid hX
  have HB := Lib.hid hb0
  by_cases h0 : 0 < n
  · have f0 := fun z : Gr X => z.cell hp.c0
    have f1 := fun z : Gr X => z.cell hp.c1
    have hx := SrcV.below h hb0
    have h5 := fun z : Gr X => clamp_any a n c' ls l c true z.W (SrcV.below hx z.below) hs
    have he := fun W => eq_pos (clL ls l) (clC ls l c true) l c W
    have d0 : decide (0 < n) = true := decide_eq_true h0
    rw [← plc_cl (by omega)]
    clear h hx hX hb0 hs hp hlen
    go_enter Try.func28, Try.ntmps28
    go_wp2
    rw [← HX.out]
    refine wp_region_grow (by kernel_rfl) (by kernel_rfl) ?_
    repeat (go_big_quiet_step (first | (go_at_call 41; exact Calls.grow_of (h5 _))))
    refine wpQuiet_nil ?_
    rintro _ ⟨⟨X5, hX5⟩, rfl⟩
    go_wp2
    go_ret
    exact ⟨rfl, HB.out.trans (hX5.mono HB.out.size)⟩
  · obtain rfl : n = 0 := by omega
    have hd : decide (Plc ls l c) = false := decide_eq_false fun hp => by have := hp.1; have := hp.2.1; omega
    rw [hd]
    clear h hX hb0 hs hp hlen hd
    go_enter Try.func28, Try.ntmps28
    go_wp2
    rw [← HX.out]
    refine wp_region_grow (by kernel_rfl) (by kernel_rfl) ?_
    repeat (go_big_quiet_step (fail))
    refine wpQuiet_nil ?_
    rintro _ ⟨⟨X5, hX5⟩, rfl⟩
    go_wp2
    go_ret
    exact ⟨rfl, HB.out.trans (hX5.mono HB.out.size)⟩

theorem top_cl (ls : List ByteArray) {i : Nat} (h : i < ls.length) (past : Bool) : clC ls (i : Int) ((lineAt ls i).size : Int) past = top (lineAt ls i) past := by
  unfold clC clL
  rw [cl_in h]
  generalize lineAt ls i = s
  unfold top
  cases past
  · rw [if_neg (by decide)]; unfold cl; omega
  · rw [if_pos rfl]; unfold cl; omega

theorem end_any (a : Option Addr) (n c' : Nat) (ls : List ByteArray) (i : Nat) (past : Bool) (w : World) (h : Ss w a n c' ls) (hs : ∀ s ∈ ls, s.size ≤ 140737488355328) (hi : i < n) :
    Calls Try.prog 35 #[.slice a n c', .int .i64 i, .bool past] w fun e w' => e = .returned (.int .i64 (top (lineAt ls i) past : Nat)) ∧ Below w.heap.size w w' := by
  have hlen := h.length
  have hn := h.le63
  have h5 := clamp_any a n c' ls i ((lineAt ls i).size : Int) past w h hs
  rw [top_cl ls (by omega) past] at h5
  obtain ⟨b, o, rfl, hc, hnc, _⟩ := h.read i (by omega)
  have hlt := lineAt_get (ls := ls) (k := i) (by omega)
  rw [← hlt] at hc
  clear hlt h hlen hs
  generalize top (lineAt ls i) past = T at *
  generalize lineAt ls i = s at *
  have hfd : ∀ W : World, (Instr.field 24 (.agg #[.int .i64 (clL ls i : Int), .int .i64 (T : Int)]) 1).run Try.prog W = .ok (.int .i64 (T : Int)) W := fun _ => by kernel_rfl
  go_enter Try.func35, Try.ntmps35
  go_wp2_with fail
  refine h5.mono ?_
  rintro e w1 ⟨rfl, hb1⟩
  clear h5
  go_wp2
  go_ret
  exact ⟨rfl, hb1⟩

end Go.Proofs.Ytaekgempoaoioaa.Ch
