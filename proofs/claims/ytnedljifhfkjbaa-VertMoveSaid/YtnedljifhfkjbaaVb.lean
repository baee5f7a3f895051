/-
  Package vert and the document: Plus, Minus, Under, Down, Up, Goto.
-/
import Derived.Test.YtnedljifhfkjbaaVa
set_option linter.unusedVariables false
set_option linter.unusedSimpArgs false
set_option maxRecDepth 100000
namespace Go.Proofs.Ytnedljifhfkjbaa.Vt
open Go Go.RowKit Go.Proofs.Ytnedljifhfkjbaa.Vk Go.Proofs.Ytnedljifhfkjbaa.Str Go.Proofs.Ytnedljifhfkjbaa.Ln Go.Proofs.Ytnedljifhfkjbaa.Cl Go.Proofs.Ytnedljifhfkjbaa.Mv
attribute [local go_sem] Oper.semAt_some

/-- What a motion answers that must begin at a place, by a count. -/
def mayR (ls : List ByteArray) (l c k : Int) (r : R) : R := if Plc ls l c ∧ 1 ≤ k then r else R.no

theorem plus_any (a : Option Addr) (n c' : Nat) (ls : List ByteArray) (l c : Int) (k : Int) (w : World) (h : Ss w a n c' ls) (hs : ∀ s ∈ ls, s.size ≤ 140737488355328) (hn6 : n ≤ 1000000) :
    Calls Try.prog 15 #[.slice a n c', .agg #[.int .i64 l, .int .i64 c], .int .i64 k] w fun e w' => e = .returned ((mayR ls l c k (lineR ls (l + min k 1073741824) false))).v ∧ Below w.heap.size w w' := by
  obtain ⟨X, hX⟩ : ∃ X, X = ((w.alloc (.cells #[.int .i64 l, .int .i64 c] 24)).alloc (.cells #[.int .i64 0, .int .i64 0, .int .i64 0, .bool false, .int .i64 0] 32)) := ⟨_, rfl⟩
  have hT : Two w X l c := by rw [hX]; exact Two.new w l c
  have HX := Lib.hid hX
  have h1 := inside_any a n c' ls l c X (SrcV.below h hT.below) hs
  have p0 := hT.pos.c0
  have p1 := hT.pos.c1
  have m0 := hT.mv.c0
  have m1 := hT.mv.c1
  have m2 := hT.mv.c2
  have m3 := hT.mv.c3
  have m4 := hT.mv.c4
  have z := hT.mv.z
  have hlen := h.length
  by_cases hp : Plc ls l c
  · rw [decide_eq_true hp] at h1
    by_cases hk : 1 ≤ k
    · have hr : (mayR ls l c k (lineR ls (l + min k 1073741824) false)) = lineR ls (l + min k 1073741824) false := if_pos ⟨hp, hk⟩
      rw [hr]
      have hl0 := hp.1
      have hl1 := hp.2.1
      have h2 := fun W => counted_any k W
      have h3 := fun (D : Int) W (hW : Below w.heap.size w W) => tofirst_any a n c' ls D false W (SrcV.below h hW) hs
      have hM1 : 1 ≤ min k 1073741824 ∧ min k 1073741824 ≤ 1073741824 := by omega
      generalize min k 1073741824 = M at *
      obtain ⟨D, hD⟩ : ∃ D, D = l + M := ⟨_, rfl⟩
      have e4 : IntKind.i64.wrap (l + M) = D := by rw [IntKind.wrap_i64]; omega
      rw [← hD]
      have h3 := h3 D
      obtain ⟨r, hrr⟩ : ∃ r, r = lineR ls D false := ⟨_, rfl⟩
      rw [← hrr] at h3 ⊢
      have hk1 : ¬ k < 1 := by omega
      clear hr hp hk hD hrr h hs hX hl0 hl1 hlen hM1
      go_enter Try.func15, Try.ntmps15
      go_wp2_with fail
      rw [← HX.out]
      refine (h1).mono ?_
      rintro e w1 ⟨rfl, hb_w1⟩
      have hT1 := hT.on hb_w1
      clear p0 p1 m0 m1 m2 m3 m4 z h1
      have p0 := hT1.pos.c0
      have p1 := hT1.pos.c1
      have m0 := hT1.mv.c0
      have m1 := hT1.mv.c1
      have m2 := hT1.mv.c2
      have m3 := hT1.mv.c3
      have m4 := hT1.mv.c4
      have z := hT1.mv.z
      have g2 := fun z : Gr w1 => h2 z.W
      have g3 := fun z : Gr w1 => h3 z.W (hT1.below.trans (z.below.mono hT1.below.size))
      clear h2 h3 hT
      go_wp2_with fail
      have f_p0 := fun z : Gr w1 => z.cell p0
      have f_p1 := fun z : Gr w1 => z.cell p1
      clear p0 p1 m0 m1 m2 m3 m4 z
      refine wp_region_grow_tail 9 (by kernel_rfl) (by kernel_rfl) ?_
      simp only [List.take_succ_cons, List.take_zero, List.drop_succ_cons, List.drop_zero]
      repeat (go_big_quiet_step (first | (go_at_call 29; exact Calls.grow_of_same (g2 _)) | (go_at_call 34; exact Calls.grow_of (g3 _))))
      refine wpQuiet_nil ?_
      rintro w2 ⟨⟨_, hb_w2⟩, rfl⟩
      have hT2 := hT1.on hb_w2
      clear f_p0 f_p1
      have p0 := hT2.pos.c0
      have p1 := hT2.pos.c1
      have m0 := hT2.mv.c0
      have m1 := hT2.mv.c1
      have m2 := hT2.mv.c2
      have m3 := hT2.mv.c3
      have m4 := hT2.mv.c4
      have z := hT2.mv.z
      clear g2 g3
      go_wp2
      obtain ⟨hg, hb⟩ := hT2.ret r.l r.c r.way r.want r.j
      exact ret_mv (r := r) (g := w.heap.size + 1) rfl rfl rfl rfl hg ⟨rfl, hb⟩
    · have hr : (mayR ls l c k (lineR ls (l + min k 1073741824) false)) = R.no := if_neg fun hh => hk hh.2
      rw [hr]
      have hk1 : k < 1 := by omega
      clear hr h hs hX hp hk
      go_enter Try.func15, Try.ntmps15
      go_wp2_with fail
      rw [← HX.out]
      refine (h1).mono ?_
      rintro e w1 ⟨rfl, hb_w1⟩
      have hT1 := hT.on hb_w1
      clear p0 p1 m0 m1 m2 m3 m4 z h1 hT
      have p0 := hT1.pos.c0
      have p1 := hT1.pos.c1
      have m0 := hT1.mv.c0
      have m1 := hT1.mv.c1
      have m2 := hT1.mv.c2
      have m3 := hT1.mv.c3
      have m4 := hT1.mv.c4
      have z := hT1.mv.z
      go_wp2
      obtain ⟨hg, hb⟩ := hT1.ret 0 0 0 0 false
      exact ret_mv (r := R.no) (g := w.heap.size + 1) rfl rfl rfl rfl hg ⟨rfl, hb⟩
  · rw [decide_eq_false hp] at h1
    have hr : (mayR ls l c k (lineR ls (l + min k 1073741824) false)) = R.no := if_neg fun hh => hp hh.1
    rw [hr]
    clear hr h hs hX hp
    go_enter Try.func15, Try.ntmps15
    go_wp2_with fail
    rw [← HX.out]
    refine (h1).mono ?_
    rintro e w1 ⟨rfl, hb_w1⟩
    have hT1 := hT.on hb_w1
    clear p0 p1 m0 m1 m2 m3 m4 z h1 hT
    have p0 := hT1.pos.c0
    have p1 := hT1.pos.c1
    have m0 := hT1.mv.c0
    have m1 := hT1.mv.c1
    have m2 := hT1.mv.c2
    have m3 := hT1.mv.c3
    have m4 := hT1.mv.c4
    have z := hT1.mv.z
    go_wp2
    obtain ⟨hg, hb⟩ := hT1.ret 0 0 0 0 false
    exact ret_mv (r := R.no) (g := w.heap.size + 1) rfl rfl rfl rfl hg ⟨rfl, hb⟩

theorem plus5_any (a : Option Addr) (n c' : Nat) (ls : List ByteArray) (l c : Int) (k : Int) (w : World) (h : Ss w a n c' ls) (hs : ∀ s ∈ ls, s.size ≤ 140737488355328) (hn6 : n ≤ 1000000) :
    Calls Try.prog 16 #[.slice a n c', .agg #[.int .i64 l, .int .i64 c], .int .i64 k] w fun e w' => e = .returned ((mayR ls l c k (lineR ls (l + min k 1073741824) false))).v ∧ Below w.heap.size w w' := by
  obtain ⟨X, hX⟩ : ∃ X, X = ((w.alloc (.cells #[.int .i64 l, .int .i64 c] 24)).alloc (.cells #[.int .i64 0, .int .i64 0, .int .i64 0, .bool false, .int .i64 0] 32)) := ⟨_, rfl⟩
  have hT : Two w X l c := by rw [hX]; exact Two.new w l c
  have HX := Lib.hid hX
  have h1 := may_any a n c' ls l c k X (SrcV.below h hT.below)
  have p0 := hT.pos.c0
  have p1 := hT.pos.c1
  have m0 := hT.mv.c0
  have m1 := hT.mv.c1
  have m2 := hT.mv.c2
  have m3 := hT.mv.c3
  have m4 := hT.mv.c4
  have z := hT.mv.z
  have hlen := h.length
  by_cases hp' : Plc ls l c ∧ 1 ≤ k
  · rw [decide_eq_true hp'] at h1
    obtain ⟨hp, hk⟩ := hp'
    have hr : (mayR ls l c k (lineR ls (l + min k 1073741824) false)) = lineR ls (l + min k 1073741824) false := if_pos ⟨hp, hk⟩
    rw [hr]
    have hl0 := hp.1
    have hl1 := hp.2.1
    have h2 := fun W => capped_any k W
    have h3 := fun (D : Int) W (hW : Below w.heap.size w W) => line5_any a n c' ls D false W (SrcV.below h hW) hs
    have hM1 : 1 ≤ min k 1073741824 ∧ min k 1073741824 ≤ 1073741824 := by omega
    generalize min k 1073741824 = M at *
    obtain ⟨D, hD⟩ : ∃ D, D = l + M := ⟨_, rfl⟩
    have e4 : IntKind.i64.wrap (l + M) = D := by rw [IntKind.wrap_i64]; omega
    rw [← hD]
    have h3 := h3 D
    obtain ⟨r, hrr⟩ : ∃ r, r = lineR ls D false := ⟨_, rfl⟩
    rw [← hrr] at h3 ⊢
    clear hr hp hk hD hrr h hs hX hl0 hl1 hlen hM1
    go_enter Try.func16, Try.ntmps16
    go_wp2_with fail
    rw [← HX.out]
    refine (h1).mono ?_
    rintro e w1 ⟨rfl, hb_w1⟩
    have hT1 := hT.on hb_w1
    clear p0 p1 m0 m1 m2 m3 m4 z h1
    have p0 := hT1.pos.c0
    have p1 := hT1.pos.c1
    have m0 := hT1.mv.c0
    have m1 := hT1.mv.c1
    have m2 := hT1.mv.c2
    have m3 := hT1.mv.c3
    have m4 := hT1.mv.c4
    have z := hT1.mv.z
    have g2 := fun z : Gr w1 => h2 z.W
    have g3 := fun z : Gr w1 => h3 z.W (hT1.below.trans (z.below.mono hT1.below.size))
    clear h2 h3 hT
    go_wp2_with fail
    have f_p0 := fun z : Gr w1 => z.cell p0
    have f_p1 := fun z : Gr w1 => z.cell p1
    clear p0 p1 m0 m1 m2 m3 m4 z
    refine wp_region_grow_tail 9 (by kernel_rfl) (by kernel_rfl) ?_
    simp only [List.take_succ_cons, List.take_zero, List.drop_succ_cons, List.drop_zero]
    repeat (go_big_quiet_step (first | (go_at_call 32; exact Calls.grow_of_same (g2 _)) | (go_at_call 35; exact Calls.grow_of (g3 _))))
    refine wpQuiet_nil ?_
    rintro w2 ⟨⟨_, hb_w2⟩, rfl⟩
    have hT2 := hT1.on hb_w2
    clear f_p0 f_p1
    have p0 := hT2.pos.c0
    have p1 := hT2.pos.c1
    have m0 := hT2.mv.c0
    have m1 := hT2.mv.c1
    have m2 := hT2.mv.c2
    have m3 := hT2.mv.c3
    have m4 := hT2.mv.c4
    have z := hT2.mv.z
    clear g2 g3
    go_wp2
    obtain ⟨hg, hb⟩ := hT2.ret r.l r.c r.way r.want r.j
    exact ret_mv (r := r) (g := w.heap.size + 1) rfl rfl rfl rfl hg ⟨rfl, hb⟩
  · rw [decide_eq_false hp'] at h1
    have hr : (mayR ls l c k (lineR ls (l + min k 1073741824) false)) = R.no := if_neg fun hh => hp' hh
    rw [hr]
    clear hr h hs hX hp'
    go_enter Try.func16, Try.ntmps16
    go_wp2_with fail
    rw [← HX.out]
    refine (h1).mono ?_
    rintro e w1 ⟨rfl, hb_w1⟩
    have hT1 := hT.on hb_w1
    clear p0 p1 m0 m1 m2 m3 m4 z h1 hT
    have p0 := hT1.pos.c0
    have p1 := hT1.pos.c1
    have m0 := hT1.mv.c0
    have m1 := hT1.mv.c1
    have m2 := hT1.mv.c2
    have m3 := hT1.mv.c3
    have m4 := hT1.mv.c4
    have z := hT1.mv.z
    go_wp2_with fail
    refine (none_any _).mono ?_
    rintro e w2 ⟨rfl, hb_w2⟩
    have hT2 := hT1.on hb_w2
    clear p0 p1 m0 m1 m2 m3 m4 z
    have p0 := hT2.pos.c0
    have p1 := hT2.pos.c1
    have m0 := hT2.mv.c0
    have m1 := hT2.mv.c1
    have m2 := hT2.mv.c2
    have m3 := hT2.mv.c3
    have m4 := hT2.mv.c4
    have z := hT2.mv.z
    go_wp2
    obtain ⟨hg, hb⟩ := hT2.ret 0 0 0 0 false
    exact ret_mv (r := R.no) (g := w.heap.size + 1) rfl rfl rfl rfl hg ⟨rfl, hb⟩

theorem minus_any (a : Option Addr) (n c' : Nat) (ls : List ByteArray) (l c : Int) (k : Int) (w : World) (h : Ss w a n c' ls) (hs : ∀ s ∈ ls, s.size ≤ 140737488355328) (hn6 : n ≤ 1000000) :
    Calls Try.prog 17 #[.slice a n c', .agg #[.int .i64 l, .int .i64 c], .int .i64 k] w fun e w' => e = .returned ((mayR ls l c k (lineR ls (l - min k 1073741824) false))).v ∧ Below w.heap.size w w' := by
  obtain ⟨X, hX⟩ : ∃ X, X = ((w.alloc (.cells #[.int .i64 l, .int .i64 c] 24)).alloc (.cells #[.int .i64 0, .int .i64 0, .int .i64 0, .bool false, .int .i64 0] 32)) := ⟨_, rfl⟩
  have hT : Two w X l c := by rw [hX]; exact Two.new w l c
  have HX := Lib.hid hX
  have h1 := inside_any a n c' ls l c X (SrcV.below h hT.below) hs
  have p0 := hT.pos.c0
  have p1 := hT.pos.c1
  have m0 := hT.mv.c0
  have m1 := hT.mv.c1
  have m2 := hT.mv.c2
  have m3 := hT.mv.c3
  have m4 := hT.mv.c4
  have z := hT.mv.z
  have hlen := h.length
  by_cases hp : Plc ls l c
  · rw [decide_eq_true hp] at h1
    by_cases hk : 1 ≤ k
    · have hr : (mayR ls l c k (lineR ls (l - min k 1073741824) false)) = lineR ls (l - min k 1073741824) false := if_pos ⟨hp, hk⟩
      rw [hr]
      have hl0 := hp.1
      have hl1 := hp.2.1
      have h2 := fun W => counted_any k W
      have h3 := fun (D : Int) W (hW : Below w.heap.size w W) => tofirst_any a n c' ls D false W (SrcV.below h hW) hs
      have hM1 : 1 ≤ min k 1073741824 ∧ min k 1073741824 ≤ 1073741824 := by omega
      generalize min k 1073741824 = M at *
      obtain ⟨D, hD⟩ : ∃ D, D = l - M := ⟨_, rfl⟩
      have e4 : IntKind.i64.wrap (l - M) = D := by rw [IntKind.wrap_i64]; omega
      rw [← hD]
      have h3 := h3 D
      obtain ⟨r, hrr⟩ : ∃ r, r = lineR ls D false := ⟨_, rfl⟩
      rw [← hrr] at h3 ⊢
      have hk1 : ¬ k < 1 := by omega
      clear hr hp hk hD hrr h hs hX hl0 hl1 hlen hM1
      go_enter Try.func17, Try.ntmps17
      go_wp2_with fail
      rw [← HX.out]
      refine (h1).mono ?_
      rintro e w1 ⟨rfl, hb_w1⟩
      have hT1 := hT.on hb_w1
      clear p0 p1 m0 m1 m2 m3 m4 z h1
      have p0 := hT1.pos.c0
      have p1 := hT1.pos.c1
      have m0 := hT1.mv.c0
      have m1 := hT1.mv.c1
      have m2 := hT1.mv.c2
      have m3 := hT1.mv.c3
      have m4 := hT1.mv.c4
      have z := hT1.mv.z
      have g2 := fun z : Gr w1 => h2 z.W
      have g3 := fun z : Gr w1 => h3 z.W (hT1.below.trans (z.below.mono hT1.below.size))
      clear h2 h3 hT
      go_wp2_with fail
      have f_p0 := fun z : Gr w1 => z.cell p0
      have f_p1 := fun z : Gr w1 => z.cell p1
      clear p0 p1 m0 m1 m2 m3 m4 z
      refine wp_region_grow_tail 9 (by kernel_rfl) (by kernel_rfl) ?_
      simp only [List.take_succ_cons, List.take_zero, List.drop_succ_cons, List.drop_zero]
      repeat (go_big_quiet_step (first | (go_at_call 29; exact Calls.grow_of_same (g2 _)) | (go_at_call 34; exact Calls.grow_of (g3 _))))
      refine wpQuiet_nil ?_
      rintro w2 ⟨⟨_, hb_w2⟩, rfl⟩
      have hT2 := hT1.on hb_w2
      clear f_p0 f_p1
      have p0 := hT2.pos.c0
      have p1 := hT2.pos.c1
      have m0 := hT2.mv.c0
      have m1 := hT2.mv.c1
      have m2 := hT2.mv.c2
      have m3 := hT2.mv.c3
      have m4 := hT2.mv.c4
      have z := hT2.mv.z
      clear g2 g3
      go_wp2
      obtain ⟨hg, hb⟩ := hT2.ret r.l r.c r.way r.want r.j
      exact ret_mv (r := r) (g := w.heap.size + 1) rfl rfl rfl rfl hg ⟨rfl, hb⟩
    · have hr : (mayR ls l c k (lineR ls (l - min k 1073741824) false)) = R.no := if_neg fun hh => hk hh.2
      rw [hr]
      have hk1 : k < 1 := by omega
      clear hr h hs hX hp hk
      go_enter Try.func17, Try.ntmps17
      go_wp2_with fail
      rw [← HX.out]
      refine (h1).mono ?_
      rintro e w1 ⟨rfl, hb_w1⟩
      have hT1 := hT.on hb_w1
      clear p0 p1 m0 m1 m2 m3 m4 z h1 hT
      have p0 := hT1.pos.c0
      have p1 := hT1.pos.c1
      have m0 := hT1.mv.c0
      have m1 := hT1.mv.c1
      have m2 := hT1.mv.c2
      have m3 := hT1.mv.c3
      have m4 := hT1.mv.c4
      have z := hT1.mv.z
      go_wp2
      obtain ⟨hg, hb⟩ := hT1.ret 0 0 0 0 false
      exact ret_mv (r := R.no) (g := w.heap.size + 1) rfl rfl rfl rfl hg ⟨rfl, hb⟩
  · rw [decide_eq_false hp] at h1
    have hr : (mayR ls l c k (lineR ls (l - min k 1073741824) false)) = R.no := if_neg fun hh => hp hh.1
    rw [hr]
    clear hr h hs hX hp
    go_enter Try.func17, Try.ntmps17
    go_wp2_with fail
    rw [← HX.out]
    refine (h1).mono ?_
    rintro e w1 ⟨rfl, hb_w1⟩
    have hT1 := hT.on hb_w1
    clear p0 p1 m0 m1 m2 m3 m4 z h1 hT
    have p0 := hT1.pos.c0
    have p1 := hT1.pos.c1
    have m0 := hT1.mv.c0
    have m1 := hT1.mv.c1
    have m2 := hT1.mv.c2
    have m3 := hT1.mv.c3
    have m4 := hT1.mv.c4
    have z := hT1.mv.z
    go_wp2
    obtain ⟨hg, hb⟩ := hT1.ret 0 0 0 0 false
    exact ret_mv (r := R.no) (g := w.heap.size + 1) rfl rfl rfl rfl hg ⟨rfl, hb⟩

theorem minus5_any (a : Option Addr) (n c' : Nat) (ls : List ByteArray) (l c : Int) (k : Int) (w : World) (h : Ss w a n c' ls) (hs : ∀ s ∈ ls, s.size ≤ 140737488355328) (hn6 : n ≤ 1000000) :
    Calls Try.prog 18 #[.slice a n c', .agg #[.int .i64 l, .int .i64 c], .int .i64 k] w fun e w' => e = .returned ((mayR ls l c k (lineR ls (l - min k 1073741824) false))).v ∧ Below w.heap.size w w' := by
  obtain ⟨X, hX⟩ : ∃ X, X = ((w.alloc (.cells #[.int .i64 l, .int .i64 c] 24)).alloc (.cells #[.int .i64 0, .int .i64 0, .int .i64 0, .bool false, .int .i64 0] 32)) := ⟨_, rfl⟩
  have hT : Two w X l c := by rw [hX]; exact Two.new w l c
  have HX := Lib.hid hX
  have h1 := may_any a n c' ls l c k X (SrcV.below h hT.below)
  have p0 := hT.pos.c0
  have p1 := hT.pos.c1
  have m0 := hT.mv.c0
  have m1 := hT.mv.c1
  have m2 := hT.mv.c2
  have m3 := hT.mv.c3
  have m4 := hT.mv.c4
  have z := hT.mv.z
  have hlen := h.length
  by_cases hp' : Plc ls l c ∧ 1 ≤ k
  · rw [decide_eq_true hp'] at h1
    obtain ⟨hp, hk⟩ := hp'
    have hr : (mayR ls l c k (lineR ls (l - min k 1073741824) false)) = lineR ls (l - min k 1073741824) false := if_pos ⟨hp, hk⟩
    rw [hr]
    have hl0 := hp.1
    have hl1 := hp.2.1
    have h2 := fun W => capped_any k W
    have h3 := fun (D : Int) W (hW : Below w.heap.size w W) => line5_any a n c' ls D false W (SrcV.below h hW) hs
    have hM1 : 1 ≤ min k 1073741824 ∧ min k 1073741824 ≤ 1073741824 := by omega
    generalize min k 1073741824 = M at *
    obtain ⟨D, hD⟩ : ∃ D, D = l - M := ⟨_, rfl⟩
    have e4 : IntKind.i64.wrap (l - M) = D := by rw [IntKind.wrap_i64]; omega
    rw [← hD]
    have h3 := h3 D
    obtain ⟨r, hrr⟩ : ∃ r, r = lineR ls D false := ⟨_, rfl⟩
    rw [← hrr] at h3 ⊢
    clear hr hp hk hD hrr h hs hX hl0 hl1 hlen hM1
    go_enter Try.func18, Try.ntmps18
    go_wp2_with fail
    rw [← HX.out]
    refine (h1).mono ?_
    rintro e w1 ⟨rfl, hb_w1⟩
    have hT1 := hT.on hb_w1
    clear p0 p1 m0 m1 m2 m3 m4 z h1
    have p0 := hT1.pos.c0
    have p1 := hT1.pos.c1
    have m0 := hT1.mv.c0
    have m1 := hT1.mv.c1
    have m2 := hT1.mv.c2
    have m3 := hT1.mv.c3
    have m4 := hT1.mv.c4
    have z := hT1.mv.z
    have g2 := fun z : Gr w1 => h2 z.W
    have g3 := fun z : Gr w1 => h3 z.W (hT1.below.trans (z.below.mono hT1.below.size))
    clear h2 h3 hT
    go_wp2_with fail
    have f_p0 := fun z : Gr w1 => z.cell p0
    have f_p1 := fun z : Gr w1 => z.cell p1
    clear p0 p1 m0 m1 m2 m3 m4 z
    refine wp_region_grow_tail 9 (by kernel_rfl) (by kernel_rfl) ?_
    simp only [List.take_succ_cons, List.take_zero, List.drop_succ_cons, List.drop_zero]
    repeat (go_big_quiet_step (first | (go_at_call 32; exact Calls.grow_of_same (g2 _)) | (go_at_call 35; exact Calls.grow_of (g3 _))))
    refine wpQuiet_nil ?_
    rintro w2 ⟨⟨_, hb_w2⟩, rfl⟩
    have hT2 := hT1.on hb_w2
    clear f_p0 f_p1
    have p0 := hT2.pos.c0
    have p1 := hT2.pos.c1
    have m0 := hT2.mv.c0
    have m1 := hT2.mv.c1
    have m2 := hT2.mv.c2
    have m3 := hT2.mv.c3
    have m4 := hT2.mv.c4
    have z := hT2.mv.z
    clear g2 g3
    go_wp2
    obtain ⟨hg, hb⟩ := hT2.ret r.l r.c r.way r.want r.j
    exact ret_mv (r := r) (g := w.heap.size + 1) rfl rfl rfl rfl hg ⟨rfl, hb⟩
  · rw [decide_eq_false hp'] at h1
    have hr : (mayR ls l c k (lineR ls (l - min k 1073741824) false)) = R.no := if_neg fun hh => hp' hh
    rw [hr]
    clear hr h hs hX hp'
    go_enter Try.func18, Try.ntmps18
    go_wp2_with fail
    rw [← HX.out]
    refine (h1).mono ?_
    rintro e w1 ⟨rfl, hb_w1⟩
    have hT1 := hT.on hb_w1
    clear p0 p1 m0 m1 m2 m3 m4 z h1 hT
    have p0 := hT1.pos.c0
    have p1 := hT1.pos.c1
    have m0 := hT1.mv.c0
    have m1 := hT1.mv.c1
    have m2 := hT1.mv.c2
    have m3 := hT1.mv.c3
    have m4 := hT1.mv.c4
    have z := hT1.mv.z
    go_wp2_with fail
    refine (none_any _).mono ?_
    rintro e w2 ⟨rfl, hb_w2⟩
    have hT2 := hT1.on hb_w2
    clear p0 p1 m0 m1 m2 m3 m4 z
    have p0 := hT2.pos.c0
    have p1 := hT2.pos.c1
    have m0 := hT2.mv.c0
    have m1 := hT2.mv.c1
    have m2 := hT2.mv.c2
    have m3 := hT2.mv.c3
    have m4 := hT2.mv.c4
    have z := hT2.mv.z
    go_wp2
    obtain ⟨hg, hb⟩ := hT2.ret 0 0 0 0 false
    exact ret_mv (r := R.no) (g := w.heap.size + 1) rfl rfl rfl rfl hg ⟨rfl, hb⟩

theorem under_any (a : Option Addr) (n c' : Nat) (ls : List ByteArray) (l c : Int) (k : Int) (w : World) (h : Ss w a n c' ls) (hs : ∀ s ∈ ls, s.size ≤ 140737488355328) (hn6 : n ≤ 1000000) :
    Calls Try.prog 19 #[.slice a n c', .agg #[.int .i64 l, .int .i64 c], .int .i64 k] w fun e w' => e = .returned ((mayR ls l c k (lineR ls (l + min k 1073741824 - 1) false))).v ∧ Below w.heap.size w w' := by
  obtain ⟨X, hX⟩ : ∃ X, X = ((w.alloc (.cells #[.int .i64 l, .int .i64 c] 24)).alloc (.cells #[.int .i64 0, .int .i64 0, .int .i64 0, .bool false, .int .i64 0] 32)) := ⟨_, rfl⟩
  have hT : Two w X l c := by rw [hX]; exact Two.new w l c
  have HX := Lib.hid hX
  have h1 := inside_any a n c' ls l c X (SrcV.below h hT.below) hs
  have p0 := hT.pos.c0
  have p1 := hT.pos.c1
  have m0 := hT.mv.c0
  have m1 := hT.mv.c1
  have m2 := hT.mv.c2
  have m3 := hT.mv.c3
  have m4 := hT.mv.c4
  have z := hT.mv.z
  have hlen := h.length
  by_cases hp : Plc ls l c
  · rw [decide_eq_true hp] at h1
    by_cases hk : 1 ≤ k
    · have hr : (mayR ls l c k (lineR ls (l + min k 1073741824 - 1) false)) = lineR ls (l + min k 1073741824 - 1) false := if_pos ⟨hp, hk⟩
      rw [hr]
      have hl0 := hp.1
      have hl1 := hp.2.1
      have h2 := fun W => counted_any k W
      have h3 := fun (D : Int) W (hW : Below w.heap.size w W) => tofirst_any a n c' ls D false W (SrcV.below h hW) hs
      have hM1 : 1 ≤ min k 1073741824 ∧ min k 1073741824 ≤ 1073741824 := by omega
      generalize min k 1073741824 = M at *
      obtain ⟨D, hD⟩ : ∃ D, D = l + M - 1 := ⟨_, rfl⟩
      have e4 : IntKind.i64.wrap (l + M) = l + M := by rw [IntKind.wrap_i64]; omega
      have e5 : IntKind.i64.wrap (l + M - 1) = D := by rw [IntKind.wrap_i64]; omega
      rw [← hD]
      have h3 := h3 D
      obtain ⟨r, hrr⟩ : ∃ r, r = lineR ls D false := ⟨_, rfl⟩
      rw [← hrr] at h3 ⊢
      have hk1 : ¬ k < 1 := by omega
      clear hr hp hk hD hrr h hs hX hl0 hl1 hlen hM1
      go_enter Try.func19, Try.ntmps19
      go_wp2_with fail
      rw [← HX.out]
      refine (h1).mono ?_
      rintro e w1 ⟨rfl, hb_w1⟩
      have hT1 := hT.on hb_w1
      clear p0 p1 m0 m1 m2 m3 m4 z h1
      have p0 := hT1.pos.c0
      have p1 := hT1.pos.c1
      have m0 := hT1.mv.c0
      have m1 := hT1.mv.c1
      have m2 := hT1.mv.c2
      have m3 := hT1.mv.c3
      have m4 := hT1.mv.c4
      have z := hT1.mv.z
      have g2 := fun z : Gr w1 => h2 z.W
      have g3 := fun z : Gr w1 => h3 z.W (hT1.below.trans (z.below.mono hT1.below.size))
      clear h2 h3 hT
      go_wp2_with fail
      have f_p0 := fun z : Gr w1 => z.cell p0
      have f_p1 := fun z : Gr w1 => z.cell p1
      clear p0 p1 m0 m1 m2 m3 m4 z
      refine wp_region_grow_tail 10 (by kernel_rfl) (by kernel_rfl) ?_
      simp only [List.take_succ_cons, List.take_zero, List.drop_succ_cons, List.drop_zero]
      repeat (go_big_quiet_step (first | (go_at_call 29; exact Calls.grow_of_same (g2 _)) | (go_at_call 34; exact Calls.grow_of (g3 _))))
      refine wpQuiet_nil ?_
      rintro w2 ⟨⟨_, hb_w2⟩, rfl⟩
      have hT2 := hT1.on hb_w2
      clear f_p0 f_p1
      have p0 := hT2.pos.c0
      have p1 := hT2.pos.c1
      have m0 := hT2.mv.c0
      have m1 := hT2.mv.c1
      have m2 := hT2.mv.c2
      have m3 := hT2.mv.c3
      have m4 := hT2.mv.c4
      have z := hT2.mv.z
      clear g2 g3
      go_wp2
      obtain ⟨hg, hb⟩ := hT2.ret r.l r.c r.way r.want r.j
      exact ret_mv (r := r) (g := w.heap.size + 1) rfl rfl rfl rfl hg ⟨rfl, hb⟩
    · have hr : (mayR ls l c k (lineR ls (l + min k 1073741824 - 1) false)) = R.no := if_neg fun hh => hk hh.2
      rw [hr]
      have hk1 : k < 1 := by omega
      clear hr h hs hX hp hk
      go_enter Try.func19, Try.ntmps19
      go_wp2_with fail
      rw [← HX.out]
      refine (h1).mono ?_
      rintro e w1 ⟨rfl, hb_w1⟩
      have hT1 := hT.on hb_w1
      clear p0 p1 m0 m1 m2 m3 m4 z h1 hT
      have p0 := hT1.pos.c0
      have p1 := hT1.pos.c1
      have m0 := hT1.mv.c0
      have m1 := hT1.mv.c1
      have m2 := hT1.mv.c2
      have m3 := hT1.mv.c3
      have m4 := hT1.mv.c4
      have z := hT1.mv.z
      go_wp2
      obtain ⟨hg, hb⟩ := hT1.ret 0 0 0 0 false
      exact ret_mv (r := R.no) (g := w.heap.size + 1) rfl rfl rfl rfl hg ⟨rfl, hb⟩
  · rw [decide_eq_false hp] at h1
    have hr : (mayR ls l c k (lineR ls (l + min k 1073741824 - 1) false)) = R.no := if_neg fun hh => hp hh.1
    rw [hr]
    clear hr h hs hX hp
    go_enter Try.func19, Try.ntmps19
    go_wp2_with fail
    rw [← HX.out]
    refine (h1).mono ?_
    rintro e w1 ⟨rfl, hb_w1⟩
    have hT1 := hT.on hb_w1
    clear p0 p1 m0 m1 m2 m3 m4 z h1 hT
    have p0 := hT1.pos.c0
    have p1 := hT1.pos.c1
    have m0 := hT1.mv.c0
    have m1 := hT1.mv.c1
    have m2 := hT1.mv.c2
    have m3 := hT1.mv.c3
    have m4 := hT1.mv.c4
    have z := hT1.mv.z
    go_wp2
    obtain ⟨hg, hb⟩ := hT1.ret 0 0 0 0 false
    exact ret_mv (r := R.no) (g := w.heap.size + 1) rfl rfl rfl rfl hg ⟨rfl, hb⟩

theorem under5_any (a : Option Addr) (n c' : Nat) (ls : List ByteArray) (l c : Int) (k : Int) (w : World) (h : Ss w a n c' ls) (hs : ∀ s ∈ ls, s.size ≤ 140737488355328) (hn6 : n ≤ 1000000) :
    Calls Try.prog 20 #[.slice a n c', .agg #[.int .i64 l, .int .i64 c], .int .i64 k] w fun e w' => e = .returned ((mayR ls l c k (lineR ls (l + min k 1073741824 - 1) false))).v ∧ Below w.heap.size w w' := by
  obtain ⟨X, hX⟩ : ∃ X, X = ((w.alloc (.cells #[.int .i64 l, .int .i64 c] 24)).alloc (.cells #[.int .i64 0, .int .i64 0, .int .i64 0, .bool false, .int .i64 0] 32)) := ⟨_, rfl⟩
  have hT : Two w X l c := by rw [hX]; exact Two.new w l c
  have HX := Lib.hid hX
  have h1 := may_any a n c' ls l c k X (SrcV.below h hT.below)
  have p0 := hT.pos.c0
  have p1 := hT.pos.c1
  have m0 := hT.mv.c0
  have m1 := hT.mv.c1
  have m2 := hT.mv.c2
  have m3 := hT.mv.c3
  have m4 := hT.mv.c4
  have z := hT.mv.z
  have hlen := h.length
  by_cases hp' : Plc ls l c ∧ 1 ≤ k
  · rw [decide_eq_true hp'] at h1
    obtain ⟨hp, hk⟩ := hp'
    have hr : (mayR ls l c k (lineR ls (l + min k 1073741824 - 1) false)) = lineR ls (l + min k 1073741824 - 1) false := if_pos ⟨hp, hk⟩
    rw [hr]
    have hl0 := hp.1
    have hl1 := hp.2.1
    have h2 := fun W => capped_any k W
    have h3 := fun (D : Int) W (hW : Below w.heap.size w W) => line5_any a n c' ls D false W (SrcV.below h hW) hs
    have hM1 : 1 ≤ min k 1073741824 ∧ min k 1073741824 ≤ 1073741824 := by omega
    generalize min k 1073741824 = M at *
    obtain ⟨D, hD⟩ : ∃ D, D = l + M - 1 := ⟨_, rfl⟩
    have e4 : IntKind.i64.wrap (l + M) = l + M := by rw [IntKind.wrap_i64]; omega
    have e5 : IntKind.i64.wrap (l + M - 1) = D := by rw [IntKind.wrap_i64]; omega
    rw [← hD]
    have h3 := h3 D
    obtain ⟨r, hrr⟩ : ∃ r, r = lineR ls D false := ⟨_, rfl⟩
    rw [← hrr] at h3 ⊢
    clear hr hp hk hD hrr h hs hX hl0 hl1 hlen hM1
    go_enter Try.func20, Try.ntmps20
    go_wp2_with fail
    rw [← HX.out]
    refine (h1).mono ?_
    rintro e w1 ⟨rfl, hb_w1⟩
    have hT1 := hT.on hb_w1
    clear p0 p1 m0 m1 m2 m3 m4 z h1
    have p0 := hT1.pos.c0
    have p1 := hT1.pos.c1
    have m0 := hT1.mv.c0
    have m1 := hT1.mv.c1
    have m2 := hT1.mv.c2
    have m3 := hT1.mv.c3
    have m4 := hT1.mv.c4
    have z := hT1.mv.z
    have g2 := fun z : Gr w1 => h2 z.W
    have g3 := fun z : Gr w1 => h3 z.W (hT1.below.trans (z.below.mono hT1.below.size))
    clear h2 h3 hT
    go_wp2_with fail
    have f_p0 := fun z : Gr w1 => z.cell p0
    have f_p1 := fun z : Gr w1 => z.cell p1
    clear p0 p1 m0 m1 m2 m3 m4 z
    refine wp_region_grow_tail 10 (by kernel_rfl) (by kernel_rfl) ?_
    simp only [List.take_succ_cons, List.take_zero, List.drop_succ_cons, List.drop_zero]
    repeat (go_big_quiet_step (first | (go_at_call 32; exact Calls.grow_of_same (g2 _)) | (go_at_call 35; exact Calls.grow_of (g3 _))))
    refine wpQuiet_nil ?_
    rintro w2 ⟨⟨_, hb_w2⟩, rfl⟩
    have hT2 := hT1.on hb_w2
    clear f_p0 f_p1
    have p0 := hT2.pos.c0
    have p1 := hT2.pos.c1
    have m0 := hT2.mv.c0
    have m1 := hT2.mv.c1
    have m2 := hT2.mv.c2
    have m3 := hT2.mv.c3
    have m4 := hT2.mv.c4
    have z := hT2.mv.z
    clear g2 g3
    go_wp2
    obtain ⟨hg, hb⟩ := hT2.ret r.l r.c r.way r.want r.j
    exact ret_mv (r := r) (g := w.heap.size + 1) rfl rfl rfl rfl hg ⟨rfl, hb⟩
  · rw [decide_eq_false hp'] at h1
    have hr : (mayR ls l c k (lineR ls (l + min k 1073741824 - 1) false)) = R.no := if_neg fun hh => hp' hh
    rw [hr]
    clear hr h hs hX hp'
    go_enter Try.func20, Try.ntmps20
    go_wp2_with fail
    rw [← HX.out]
    refine (h1).mono ?_
    rintro e w1 ⟨rfl, hb_w1⟩
    have hT1 := hT.on hb_w1
    clear p0 p1 m0 m1 m2 m3 m4 z h1 hT
    have p0 := hT1.pos.c0
    have p1 := hT1.pos.c1
    have m0 := hT1.mv.c0
    have m1 := hT1.mv.c1
    have m2 := hT1.mv.c2
    have m3 := hT1.mv.c3
    have m4 := hT1.mv.c4
    have z := hT1.mv.z
    go_wp2_with fail
    refine (none_any _).mono ?_
    rintro e w2 ⟨rfl, hb_w2⟩
    have hT2 := hT1.on hb_w2
    clear p0 p1 m0 m1 m2 m3 m4 z
    have p0 := hT2.pos.c0
    have p1 := hT2.pos.c1
    have m0 := hT2.mv.c0
    have m1 := hT2.mv.c1
    have m2 := hT2.mv.c2
    have m3 := hT2.mv.c3
    have m4 := hT2.mv.c4
    have z := hT2.mv.z
    go_wp2
    obtain ⟨hg, hb⟩ := hT2.ret 0 0 0 0 false
    exact ret_mv (r := R.no) (g := w.heap.size + 1) rfl rfl rfl rfl hg ⟨rfl, hb⟩

theorem down_any (a : Option Addr) (n c' : Nat) (ls : List ByteArray) (l c : Int) (k q : Int) (w : World) (h : Ss w a n c' ls) (hs : ∀ s ∈ ls, s.size ≤ 140737488355328) (hn6 : n ≤ 1000000) :
    Calls Try.prog 11 #[.slice a n c', .agg #[.int .i64 l, .int .i64 c], .int .i64 k, .int .i64 q] w fun e w' => e = .returned ((mayR ls l c k (wantR ls (l + min k 1073741824) q))).v ∧ Below w.heap.size w w' := by
  obtain ⟨X, hX⟩ : ∃ X, X = ((w.alloc (.cells #[.int .i64 l, .int .i64 c] 24)).alloc (.cells #[.int .i64 0, .int .i64 0, .int .i64 0, .bool false, .int .i64 0] 32)) := ⟨_, rfl⟩
  have hT : Two w X l c := by rw [hX]; exact Two.new w l c
  have HX := Lib.hid hX
  have h1 := inside_any a n c' ls l c X (SrcV.below h hT.below) hs
  have p0 := hT.pos.c0
  have p1 := hT.pos.c1
  have m0 := hT.mv.c0
  have m1 := hT.mv.c1
  have m2 := hT.mv.c2
  have m3 := hT.mv.c3
  have m4 := hT.mv.c4
  have z := hT.mv.z
  have hlen := h.length
  by_cases hp : Plc ls l c
  · rw [decide_eq_true hp] at h1
    by_cases hk : 1 ≤ k
    · have hr : (mayR ls l c k (wantR ls (l + min k 1073741824) q)) = wantR ls (l + min k 1073741824) q := if_pos ⟨hp, hk⟩
      rw [hr]
      have hl0 := hp.1
      have hl1 := hp.2.1
      have h2 := fun W => counted_any k W
      have h3 := fun (D : Int) W (hW : Below w.heap.size w W) => tocolumn_any a n c' ls D q W (SrcV.below h hW) hs
      have hM1 : 1 ≤ min k 1073741824 ∧ min k 1073741824 ≤ 1073741824 := by omega
      generalize min k 1073741824 = M at *
      obtain ⟨D, hD⟩ : ∃ D, D = l + M := ⟨_, rfl⟩
      have e4 : IntKind.i64.wrap (l + M) = D := by rw [IntKind.wrap_i64]; omega
      rw [← hD]
      have h3 := h3 D
      obtain ⟨r, hrr⟩ : ∃ r, r = wantR ls D q := ⟨_, rfl⟩
      rw [← hrr] at h3 ⊢
      have hk1 : ¬ k < 1 := by omega
      clear hr hp hk hD hrr h hs hX hl0 hl1 hlen hM1
      go_enter Try.func11, Try.ntmps11
      go_wp2_with fail
      rw [← HX.out]
      refine (h1).mono ?_
      rintro e w1 ⟨rfl, hb_w1⟩
      have hT1 := hT.on hb_w1
      clear p0 p1 m0 m1 m2 m3 m4 z h1
      have p0 := hT1.pos.c0
      have p1 := hT1.pos.c1
      have m0 := hT1.mv.c0
      have m1 := hT1.mv.c1
      have m2 := hT1.mv.c2
      have m3 := hT1.mv.c3
      have m4 := hT1.mv.c4
      have z := hT1.mv.z
      have g2 := fun z : Gr w1 => h2 z.W
      have g3 := fun z : Gr w1 => h3 z.W (hT1.below.trans (z.below.mono hT1.below.size))
      clear h2 h3 hT
      go_wp2_with fail
      have f_p0 := fun z : Gr w1 => z.cell p0
      have f_p1 := fun z : Gr w1 => z.cell p1
      clear p0 p1 m0 m1 m2 m3 m4 z
      refine wp_region_grow_tail 10 (by kernel_rfl) (by kernel_rfl) ?_
      simp only [List.take_succ_cons, List.take_zero, List.drop_succ_cons, List.drop_zero]
      repeat (go_big_quiet_step (first | (go_at_call 29; exact Calls.grow_of_same (g2 _)) | (go_at_call 28; exact Calls.grow_of (g3 _))))
      refine wpQuiet_nil ?_
      rintro w2 ⟨⟨_, hb_w2⟩, rfl⟩
      have hT2 := hT1.on hb_w2
      clear f_p0 f_p1
      have p0 := hT2.pos.c0
      have p1 := hT2.pos.c1
      have m0 := hT2.mv.c0
      have m1 := hT2.mv.c1
      have m2 := hT2.mv.c2
      have m3 := hT2.mv.c3
      have m4 := hT2.mv.c4
      have z := hT2.mv.z
      clear g2 g3
      go_wp2
      obtain ⟨hg, hb⟩ := hT2.ret r.l r.c r.way r.want r.j
      exact ret_mv (r := r) (g := w.heap.size + 1) rfl rfl rfl rfl hg ⟨rfl, hb⟩
    · have hr : (mayR ls l c k (wantR ls (l + min k 1073741824) q)) = R.no := if_neg fun hh => hk hh.2
      rw [hr]
      have hk1 : k < 1 := by omega
      clear hr h hs hX hp hk
      go_enter Try.func11, Try.ntmps11
      go_wp2_with fail
      rw [← HX.out]
      refine (h1).mono ?_
      rintro e w1 ⟨rfl, hb_w1⟩
      have hT1 := hT.on hb_w1
      clear p0 p1 m0 m1 m2 m3 m4 z h1 hT
      have p0 := hT1.pos.c0
      have p1 := hT1.pos.c1
      have m0 := hT1.mv.c0
      have m1 := hT1.mv.c1
      have m2 := hT1.mv.c2
      have m3 := hT1.mv.c3
      have m4 := hT1.mv.c4
      have z := hT1.mv.z
      go_wp2
      obtain ⟨hg, hb⟩ := hT1.ret 0 0 0 0 false
      exact ret_mv (r := R.no) (g := w.heap.size + 1) rfl rfl rfl rfl hg ⟨rfl, hb⟩
  · rw [decide_eq_false hp] at h1
    have hr : (mayR ls l c k (wantR ls (l + min k 1073741824) q)) = R.no := if_neg fun hh => hp hh.1
    rw [hr]
    clear hr h hs hX hp
    go_enter Try.func11, Try.ntmps11
    go_wp2_with fail
    rw [← HX.out]
    refine (h1).mono ?_
    rintro e w1 ⟨rfl, hb_w1⟩
    have hT1 := hT.on hb_w1
    clear p0 p1 m0 m1 m2 m3 m4 z h1 hT
    have p0 := hT1.pos.c0
    have p1 := hT1.pos.c1
    have m0 := hT1.mv.c0
    have m1 := hT1.mv.c1
    have m2 := hT1.mv.c2
    have m3 := hT1.mv.c3
    have m4 := hT1.mv.c4
    have z := hT1.mv.z
    go_wp2
    obtain ⟨hg, hb⟩ := hT1.ret 0 0 0 0 false
    exact ret_mv (r := R.no) (g := w.heap.size + 1) rfl rfl rfl rfl hg ⟨rfl, hb⟩

theorem up_any (a : Option Addr) (n c' : Nat) (ls : List ByteArray) (l c : Int) (k q : Int) (w : World) (h : Ss w a n c' ls) (hs : ∀ s ∈ ls, s.size ≤ 140737488355328) (hn6 : n ≤ 1000000) :
    Calls Try.prog 14 #[.slice a n c', .agg #[.int .i64 l, .int .i64 c], .int .i64 k, .int .i64 q] w fun e w' => e = .returned ((mayR ls l c k (wantR ls (l - min k 1073741824) q))).v ∧ Below w.heap.size w w' := by
  obtain ⟨X, hX⟩ : ∃ X, X = ((w.alloc (.cells #[.int .i64 l, .int .i64 c] 24)).alloc (.cells #[.int .i64 0, .int .i64 0, .int .i64 0, .bool false, .int .i64 0] 32)) := ⟨_, rfl⟩
  have hT : Two w X l c := by rw [hX]; exact Two.new w l c
  have HX := Lib.hid hX
  have h1 := inside_any a n c' ls l c X (SrcV.below h hT.below) hs
  have p0 := hT.pos.c0
  have p1 := hT.pos.c1
  have m0 := hT.mv.c0
  have m1 := hT.mv.c1
  have m2 := hT.mv.c2
  have m3 := hT.mv.c3
  have m4 := hT.mv.c4
  have z := hT.mv.z
  have hlen := h.length
  by_cases hp : Plc ls l c
  · rw [decide_eq_true hp] at h1
    by_cases hk : 1 ≤ k
    · have hr : (mayR ls l c k (wantR ls (l - min k 1073741824) q)) = wantR ls (l - min k 1073741824) q := if_pos ⟨hp, hk⟩
      rw [hr]
      have hl0 := hp.1
      have hl1 := hp.2.1
      have h2 := fun W => counted_any k W
      have h3 := fun (D : Int) W (hW : Below w.heap.size w W) => tocolumn_any a n c' ls D q W (SrcV.below h hW) hs
      have hM1 : 1 ≤ min k 1073741824 ∧ min k 1073741824 ≤ 1073741824 := by omega
      generalize min k 1073741824 = M at *
      obtain ⟨D, hD⟩ : ∃ D, D = l - M := ⟨_, rfl⟩
      have e4 : IntKind.i64.wrap (l - M) = D := by rw [IntKind.wrap_i64]; omega
      rw [← hD]
      have h3 := h3 D
      obtain ⟨r, hrr⟩ : ∃ r, r = wantR ls D q := ⟨_, rfl⟩
      rw [← hrr] at h3 ⊢
      have hk1 : ¬ k < 1 := by omega
      clear hr hp hk hD hrr h hs hX hl0 hl1 hlen hM1
      go_enter Try.func14, Try.ntmps14
      go_wp2_with fail
      rw [← HX.out]
      refine (h1).mono ?_
      rintro e w1 ⟨rfl, hb_w1⟩
      have hT1 := hT.on hb_w1
      clear p0 p1 m0 m1 m2 m3 m4 z h1
      have p0 := hT1.pos.c0
      have p1 := hT1.pos.c1
      have m0 := hT1.mv.c0
      have m1 := hT1.mv.c1
      have m2 := hT1.mv.c2
      have m3 := hT1.mv.c3
      have m4 := hT1.mv.c4
      have z := hT1.mv.z
      have g2 := fun z : Gr w1 => h2 z.W
      have g3 := fun z : Gr w1 => h3 z.W (hT1.below.trans (z.below.mono hT1.below.size))
      clear h2 h3 hT
      go_wp2_with fail
      have f_p0 := fun z : Gr w1 => z.cell p0
      have f_p1 := fun z : Gr w1 => z.cell p1
      clear p0 p1 m0 m1 m2 m3 m4 z
      refine wp_region_grow_tail 10 (by kernel_rfl) (by kernel_rfl) ?_
      simp only [List.take_succ_cons, List.take_zero, List.drop_succ_cons, List.drop_zero]
      repeat (go_big_quiet_step (first | (go_at_call 29; exact Calls.grow_of_same (g2 _)) | (go_at_call 28; exact Calls.grow_of (g3 _))))
      refine wpQuiet_nil ?_
      rintro w2 ⟨⟨_, hb_w2⟩, rfl⟩
      have hT2 := hT1.on hb_w2
      clear f_p0 f_p1
      have p0 := hT2.pos.c0
      have p1 := hT2.pos.c1
      have m0 := hT2.mv.c0
      have m1 := hT2.mv.c1
      have m2 := hT2.mv.c2
      have m3 := hT2.mv.c3
      have m4 := hT2.mv.c4
      have z := hT2.mv.z
      clear g2 g3
      go_wp2
      obtain ⟨hg, hb⟩ := hT2.ret r.l r.c r.way r.want r.j
      exact ret_mv (r := r) (g := w.heap.size + 1) rfl rfl rfl rfl hg ⟨rfl, hb⟩
    · have hr : (mayR ls l c k (wantR ls (l - min k 1073741824) q)) = R.no := if_neg fun hh => hk hh.2
      rw [hr]
      have hk1 : k < 1 := by omega
      clear hr h hs hX hp hk
      go_enter Try.func14, Try.ntmps14
      go_wp2_with fail
      rw [← HX.out]
      refine (h1).mono ?_
      rintro e w1 ⟨rfl, hb_w1⟩
      have hT1 := hT.on hb_w1
      clear p0 p1 m0 m1 m2 m3 m4 z h1 hT
      have p0 := hT1.pos.c0
      have p1 := hT1.pos.c1
      have m0 := hT1.mv.c0
      have m1 := hT1.mv.c1
      have m2 := hT1.mv.c2
      have m3 := hT1.mv.c3
      have m4 := hT1.mv.c4
      have z := hT1.mv.z
      go_wp2
      obtain ⟨hg, hb⟩ := hT1.ret 0 0 0 0 false
      exact ret_mv (r := R.no) (g := w.heap.size + 1) rfl rfl rfl rfl hg ⟨rfl, hb⟩
  · rw [decide_eq_false hp] at h1
    have hr : (mayR ls l c k (wantR ls (l - min k 1073741824) q)) = R.no := if_neg fun hh => hp hh.1
    rw [hr]
    clear hr h hs hX hp
    go_enter Try.func14, Try.ntmps14
    go_wp2_with fail
    rw [← HX.out]
    refine (h1).mono ?_
    rintro e w1 ⟨rfl, hb_w1⟩
    have hT1 := hT.on hb_w1
    clear p0 p1 m0 m1 m2 m3 m4 z h1 hT
    have p0 := hT1.pos.c0
    have p1 := hT1.pos.c1
    have m0 := hT1.mv.c0
    have m1 := hT1.mv.c1
    have m2 := hT1.mv.c2
    have m3 := hT1.mv.c3
    have m4 := hT1.mv.c4
    have z := hT1.mv.z
    go_wp2
    obtain ⟨hg, hb⟩ := hT1.ret 0 0 0 0 false
    exact ret_mv (r := R.no) (g := w.heap.size + 1) rfl rfl rfl rfl hg ⟨rfl, hb⟩

theorem goto_any (a : Option Addr) (n c' : Nat) (ls : List ByteArray) (l c : Int) (k : Int) (w : World) (h : Ss w a n c' ls) (hs : ∀ s ∈ ls, s.size ≤ 140737488355328) (hn6 : n ≤ 1000000) (hk63 : k ≤ 9223372036854775807) :
    Calls Try.prog 21 #[.slice a n c', .agg #[.int .i64 l, .int .i64 c], .int .i64 k] w fun e w' => e = .returned ((mayR ls l c k (lineR ls (k - 1) true))).v ∧ Below w.heap.size w w' := by
  obtain ⟨X, hX⟩ : ∃ X, X = ((w.alloc (.cells #[.int .i64 l, .int .i64 c] 24)).alloc (.cells #[.int .i64 0, .int .i64 0, .int .i64 0, .bool false, .int .i64 0] 32)) := ⟨_, rfl⟩
  have hT : Two w X l c := by rw [hX]; exact Two.new w l c
  have HX := Lib.hid hX
  have h1 := inside_any a n c' ls l c X (SrcV.below h hT.below) hs
  have p0 := hT.pos.c0
  have p1 := hT.pos.c1
  have m0 := hT.mv.c0
  have m1 := hT.mv.c1
  have m2 := hT.mv.c2
  have m3 := hT.mv.c3
  have m4 := hT.mv.c4
  have z := hT.mv.z
  have hlen := h.length
  by_cases hp : Plc ls l c
  · rw [decide_eq_true hp] at h1
    by_cases hk : 1 ≤ k
    · have hr : (mayR ls l c k (lineR ls (k - 1) true)) = lineR ls (k - 1) true := if_pos ⟨hp, hk⟩
      rw [hr]
      have h3 := fun (D : Int) W (hW : Below w.heap.size w W) => tofirst_any a n c' ls D true W (SrcV.below h hW) hs
      obtain ⟨D, hD⟩ : ∃ D, D = k - 1 := ⟨_, rfl⟩
      have e4 : IntKind.i64.wrap (k - 1) = D := by rw [IntKind.wrap_i64]; omega
      rw [← hD]
      have h3 := h3 D
      obtain ⟨r, hrr⟩ : ∃ r, r = lineR ls D true := ⟨_, rfl⟩
      rw [← hrr] at h3 ⊢
      have hk1 : ¬ k < 1 := by omega
      clear hr hp hk hD hrr h hs hX hlen
      go_enter Try.func21, Try.ntmps21
      go_wp2_with fail
      rw [← HX.out]
      refine (h1).mono ?_
      rintro e w1 ⟨rfl, hb_w1⟩
      have hT1 := hT.on hb_w1
      clear p0 p1 m0 m1 m2 m3 m4 z h1
      have p0 := hT1.pos.c0
      have p1 := hT1.pos.c1
      have m0 := hT1.mv.c0
      have m1 := hT1.mv.c1
      have m2 := hT1.mv.c2
      have m3 := hT1.mv.c3
      have m4 := hT1.mv.c4
      have z := hT1.mv.z
      go_wp2_with fail
      refine (h3 _ hT1.below).mono ?_
      rintro e w2 ⟨rfl, hb_w2⟩
      have hT2 := hT1.on hb_w2
      clear p0 p1 m0 m1 m2 m3 m4 z h3 hT hT1
      have p0 := hT2.pos.c0
      have p1 := hT2.pos.c1
      have m0 := hT2.mv.c0
      have m1 := hT2.mv.c1
      have m2 := hT2.mv.c2
      have m3 := hT2.mv.c3
      have m4 := hT2.mv.c4
      have z := hT2.mv.z
      go_wp2
      obtain ⟨hg, hb⟩ := hT2.ret r.l r.c r.way r.want r.j
      exact ret_mv (r := r) (g := w.heap.size + 1) rfl rfl rfl rfl hg ⟨rfl, hb⟩
    · have hr : (mayR ls l c k (lineR ls (k - 1) true)) = R.no := if_neg fun hh => hk hh.2
      rw [hr]
      have hk1 : k < 1 := by omega
      clear hr h hs hX hp hk
      go_enter Try.func21, Try.ntmps21
      go_wp2_with fail
      rw [← HX.out]
      refine (h1).mono ?_
      rintro e w1 ⟨rfl, hb_w1⟩
      have hT1 := hT.on hb_w1
      clear p0 p1 m0 m1 m2 m3 m4 z h1 hT
      have p0 := hT1.pos.c0
      have p1 := hT1.pos.c1
      have m0 := hT1.mv.c0
      have m1 := hT1.mv.c1
      have m2 := hT1.mv.c2
      have m3 := hT1.mv.c3
      have m4 := hT1.mv.c4
      have z := hT1.mv.z
      go_wp2
      obtain ⟨hg, hb⟩ := hT1.ret 0 0 0 0 false
      exact ret_mv (r := R.no) (g := w.heap.size + 1) rfl rfl rfl rfl hg ⟨rfl, hb⟩
  · rw [decide_eq_false hp] at h1
    have hr : (mayR ls l c k (lineR ls (k - 1) true)) = R.no := if_neg fun hh => hp hh.1
    rw [hr]
    clear hr h hs hX hp
    go_enter Try.func21, Try.ntmps21
    go_wp2_with fail
    rw [← HX.out]
    refine (h1).mono ?_
    rintro e w1 ⟨rfl, hb_w1⟩
    have hT1 := hT.on hb_w1
    clear p0 p1 m0 m1 m2 m3 m4 z h1 hT
    have p0 := hT1.pos.c0
    have p1 := hT1.pos.c1
    have m0 := hT1.mv.c0
    have m1 := hT1.mv.c1
    have m2 := hT1.mv.c2
    have m3 := hT1.mv.c3
    have m4 := hT1.mv.c4
    have z := hT1.mv.z
    go_wp2
    obtain ⟨hg, hb⟩ := hT1.ret 0 0 0 0 false
    exact ret_mv (r := R.no) (g := w.heap.size + 1) rfl rfl rfl rfl hg ⟨rfl, hb⟩

theorem goto5_any (a : Option Addr) (n c' : Nat) (ls : List ByteArray) (l c : Int) (k : Int) (w : World) (h : Ss w a n c' ls) (hs : ∀ s ∈ ls, s.size ≤ 140737488355328) (hn6 : n ≤ 1000000) (hk63 : k ≤ 9223372036854775807) :
    Calls Try.prog 22 #[.slice a n c', .agg #[.int .i64 l, .int .i64 c], .int .i64 k] w fun e w' => e = .returned ((mayR ls l c k (lineR ls (k - 1) true))).v ∧ Below w.heap.size w w' := by
  obtain ⟨X, hX⟩ : ∃ X, X = ((w.alloc (.cells #[.int .i64 l, .int .i64 c] 24)).alloc (.cells #[.int .i64 0, .int .i64 0, .int .i64 0, .bool false, .int .i64 0] 32)) := ⟨_, rfl⟩
  have hT : Two w X l c := by rw [hX]; exact Two.new w l c
  have HX := Lib.hid hX
  have h1 := may_any a n c' ls l c k X (SrcV.below h hT.below)
  have p0 := hT.pos.c0
  have p1 := hT.pos.c1
  have m0 := hT.mv.c0
  have m1 := hT.mv.c1
  have m2 := hT.mv.c2
  have m3 := hT.mv.c3
  have m4 := hT.mv.c4
  have z := hT.mv.z
  have hlen := h.length
  by_cases hp' : Plc ls l c ∧ 1 ≤ k
  · rw [decide_eq_true hp'] at h1
    obtain ⟨hp, hk⟩ := hp'
    have hr : (mayR ls l c k (lineR ls (k - 1) true)) = lineR ls (k - 1) true := if_pos ⟨hp, hk⟩
    rw [hr]
    have h2 := fun W => capped_any k W
    have h3 := fun (D : Int) W (hW : Below w.heap.size w W) => line5_any a n c' ls D true W (SrcV.below h hW) hs
    obtain ⟨M, hM⟩ : ∃ M, M = min k 1073741824 := ⟨_, rfl⟩
    rw [← hM] at h2
    obtain ⟨E, hE⟩ : ∃ E, E = M - 1 := ⟨_, rfl⟩
    have e5 : IntKind.i64.wrap (M - 1) = E := by rw [IntKind.wrap_i64]; omega
    have hl : lineR ls (k - 1) true = lineR ls E true := by
      unfold lineR
      by_cases hb : k ≤ 1073741824
      · rw [show k - 1 = E by omega]
      · rw [if_neg (by omega), if_neg (by omega)]
    rw [hl]
    have h3 := h3 E
    obtain ⟨r, hrr⟩ : ∃ r, r = lineR ls E true := ⟨_, rfl⟩
    rw [← hrr] at h3 ⊢
    clear hr hp hk hE hM hl hrr h hs hX hlen
    go_enter Try.func22, Try.ntmps22
    go_wp2_with fail
    rw [← HX.out]
    refine (h1).mono ?_
    rintro e w1 ⟨rfl, hb_w1⟩
    have hT1 := hT.on hb_w1
    clear p0 p1 m0 m1 m2 m3 m4 z h1
    have p0 := hT1.pos.c0
    have p1 := hT1.pos.c1
    have m0 := hT1.mv.c0
    have m1 := hT1.mv.c1
    have m2 := hT1.mv.c2
    have m3 := hT1.mv.c3
    have m4 := hT1.mv.c4
    have z := hT1.mv.z
    go_wp2_with fail
    refine (h2 _).mono ?_
    rintro e w' ⟨rfl, rfl⟩
    clear h2
    go_wp2_with fail
    refine (h3 _ hT1.below).mono ?_
    rintro e w2 ⟨rfl, hb_w2⟩
    have hT2 := hT1.on hb_w2
    clear p0 p1 m0 m1 m2 m3 m4 z h3 hT hT1
    have p0 := hT2.pos.c0
    have p1 := hT2.pos.c1
    have m0 := hT2.mv.c0
    have m1 := hT2.mv.c1
    have m2 := hT2.mv.c2
    have m3 := hT2.mv.c3
    have m4 := hT2.mv.c4
    have z := hT2.mv.z
    go_wp2
    obtain ⟨hg, hb⟩ := hT2.ret r.l r.c r.way r.want r.j
    exact ret_mv (r := r) (g := w.heap.size + 1) rfl rfl rfl rfl hg ⟨rfl, hb⟩
  · rw [decide_eq_false hp'] at h1
    have hr : (mayR ls l c k (lineR ls (k - 1) true)) = R.no := if_neg fun hh => hp' hh
    rw [hr]
    clear hr h hs hX hp'
    go_enter Try.func22, Try.ntmps22
    go_wp2_with fail
    rw [← HX.out]
    refine (h1).mono ?_
    rintro e w1 ⟨rfl, hb_w1⟩
    have hT1 := hT.on hb_w1
    clear p0 p1 m0 m1 m2 m3 m4 z h1 hT
    have p0 := hT1.pos.c0
    have p1 := hT1.pos.c1
    have m0 := hT1.mv.c0
    have m1 := hT1.mv.c1
    have m2 := hT1.mv.c2
    have m3 := hT1.mv.c3
    have m4 := hT1.mv.c4
    have z := hT1.mv.z
    go_wp2_with fail
    refine (none_any _).mono ?_
    rintro e w2 ⟨rfl, hb_w2⟩
    have hT2 := hT1.on hb_w2
    clear p0 p1 m0 m1 m2 m3 m4 z
    have p0 := hT2.pos.c0
    have p1 := hT2.pos.c1
    have m0 := hT2.mv.c0
    have m1 := hT2.mv.c1
    have m2 := hT2.mv.c2
    have m3 := hT2.mv.c3
    have m4 := hT2.mv.c4
    have z := hT2.mv.z
    go_wp2
    obtain ⟨hg, hb⟩ := hT2.ret 0 0 0 0 false
    exact ret_mv (r := R.no) (g := w.heap.size + 1) rfl rfl rfl rfl hg ⟨rfl, hb⟩


end Go.Proofs.Ytnedljifhfkjbaa.Vt
