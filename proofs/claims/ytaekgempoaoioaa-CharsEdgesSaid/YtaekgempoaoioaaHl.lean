/-
  Package chars and the document: Left.
-/
import Derived.Test.YtaekgempoaoioaaHa
set_option linter.unusedVariables false
set_option linter.unusedSimpArgs false
set_option maxRecDepth 100000
namespace Go.Proofs.Ytaekgempoaoioaa.Ch
open Go Go.RowKit Go.Proofs.Ytaekgempoaoioaa.Vk Go.Proofs.Ytaekgempoaoioaa.Str Go.Proofs.Ytaekgempoaoioaa.Ln Go.Proofs.Ytaekgempoaoioaa.Cl Go.Proofs.Ytaekgempoaoioaa.Mv
attribute [local go_sem] Oper.semAt_some
/-- The first two variables of a motion: the place, the answer. -/
structure Two (w W : World) (l c : Int) : Prop where
  below : Below w.heap.size w W
  size : w.heap.size + 2 ≤ W.heap.size
  pos : PosAt W w.heap.size l c
  mv : MvAt W (w.heap.size + 1) 0 0 0 false 0
theorem Two.new (w : World) (l c : Int) : Two w ((w.alloc (.cells #[.int .i64 l, .int .i64 c] 24)).alloc (.cells #[.int .i64 0, .int .i64 0, .int .i64 0, .bool false, .int .i64 0] 32)) l c :=
  ⟨two_below _ _ _, by simp, (PosAt.new w l c).below ((Below.refl _ _).alloc (Nat.le_refl _) _) (by simp), two_new w _ _⟩
theorem Two.on {w W W' : World} {l c : Int} (h : Two w W l c) (hb : Below W.heap.size W W') : Two w W' l c :=
  ⟨h.below.trans (hb.mono h.below.size), Nat.le_trans h.size hb.size, h.pos.below hb h.pos.lt, h.mv.below hb h.mv.lt⟩
theorem Two.put {w W : World} {l c : Int} (h : Two w W l c) {g : Nat} (hg : w.heap.size + 2 ≤ g) (a b d want : Int) (j : Bool) : Two w (put5 W g a b d j want) l c :=
  ⟨put5_below h.below (by omega) _ _ _ _ _, by rw [put5_size]; exact h.size, h.pos.other5 (by omega), h.mv.other5 (by omega)⟩
theorem Two.set {w W : World} {l c : Int} (h : Two w W l c) {g : Nat} (hg : w.heap.size + 2 ≤ g) (k : Nat) (v : Value) : Two w (W.setCell ⟨g, k, none⟩ v) l c :=
  ⟨h.below.setCell (p := ⟨g, k, none⟩) (Nat.le_trans (by omega) hg) _, by simpa using h.size, h.pos.other (by omega), h.mv.other (by omega)⟩
theorem Two.ret {w W : World} {l c : Int} (h : Two w W l c) (a b d want : Int) (j : Bool) : MvAt (put5 W (w.heap.size + 1) a b d j want) (w.heap.size + 1) a b d j want ∧ Below w.heap.size w (put5 W (w.heap.size + 1) a b d j want) :=
  ⟨h.mv.put _ _ _ _ _, put5_below h.below (by omega) _ _ _ _ _⟩

def leftR (ls : List ByteArray) (l c k : Int) : R := if Plc ls l c ∧ 1 ≤ k ∧ c ≠ 0 then R.to l (max (c - min k 1073741824) 0) else R.no

theorem left_any (a : Option Addr) (n c' : Nat) (ls : List ByteArray) (l c : Int) (k : Int) (w : World) (h : Ss w a n c' ls) (hs : ∀ s ∈ ls, s.size ≤ 140737488355328) :
    Calls Try.prog 12 #[.slice a n c', .agg #[.int .i64 l, .int .i64 c], .int .i64 k] w fun e w' => e = .returned ((leftR ls l c k)).v ∧ Below w.heap.size w w' := by
  obtain ⟨X, hX⟩ : ∃ X, X = ((w.alloc (.cells #[.int .i64 l, .int .i64 c] 24)).alloc (.cells #[.int .i64 0, .int .i64 0, .int .i64 0, .bool false, .int .i64 0] 32)) := ⟨_, rfl⟩
  have hT : Two w X l c := by rw [hX]; exact Two.new w l c
  have HX := Lib.hid hX
  have h1 := inside_any a n c' ls l c X (SrcV.below h hT.below) hs
  have p0 := hT.pos.c0
  have p1 := hT.pos.c1
  have m0 := hT.mv.c0
  have m1 := hT.mv.c1
  have m2 := hT.mv.c2
  have m3 := hT.mv.c3
  have m4 := hT.mv.c4
  have z := hT.mv.z
  have hlen := h.length
  have hn := h.le63
  by_cases hp : Plc ls l c
  · rw [decide_eq_true hp] at h1
    by_cases hk : 1 ≤ k
    · by_cases h0 : c = 0
      · have hr : (leftR ls l c k) = R.no := if_neg fun hh => hh.2.2 h0
        rw [hr]
        subst h0
        have hk1 : ¬ k < 1 := by omega
        clear hr h hs hX hp hk
        go_enter Try.func12, Try.ntmps12
        go_wp2_with fail
        rw [← HX.out]
        refine (h1).mono ?_
        rintro e w1 ⟨rfl, hb_w1⟩
        have hT1 := hT.on hb_w1
        clear p0 p1 m0 m1 m2 m3 m4 z h1 hT
        have p0 := hT1.pos.c0
        have p1 := hT1.pos.c1
        have m0 := hT1.mv.c0
        have m1 := hT1.mv.c1
        have m2 := hT1.mv.c2
        have m3 := hT1.mv.c3
        have m4 := hT1.mv.c4
        have z := hT1.mv.z
        go_wp2
        obtain ⟨hg, hb⟩ := hT1.ret 0 0 0 0 false
        exact ret_mv (r := R.no) (g := w.heap.size + 1) rfl rfl rfl rfl hg ⟨rfl, hb⟩
      · have hr : (leftR ls l c k) = R.to l (max (c - min k 1073741824) 0) := if_pos ⟨hp, hk, h0⟩
        rw [hr]
        have hc : 0 ≤ c ∧ c ≤ 140737488355328 := by
          obtain ⟨i, m, rfl, rfl, hi, hm⟩ := hp.nat
          have := hs (ls[i]'hi) (List.getElem_mem _)
          rw [← lineAt_get hi] at this
          omega
        have h2 := fun W => counted_any k W
        generalize hM : min k 1073741824 = M at *
        obtain ⟨E, hE⟩ : ∃ E, E = max (c - M) 0 := ⟨_, rfl⟩
        obtain ⟨D, hD⟩ : ∃ D, D = min M c := ⟨_, rfl⟩
        have e1 : (if c < M then c else M) = D := by omega
        have e2 : min M c = D := hD.symm
        have e3 : IntKind.i64.wrap (c - D) = E := by rw [IntKind.wrap_i64]; omega
        have e4 : IntKind.i64.wrap (c - M) = c - M := by rw [IntKind.wrap_i64]; omega
        have e6 : (if c - M < 0 then 0 else c - M) = E := by omega
        have e7 : max (c - M) 0 = E := hE.symm
        have e5 : (c == 0) = false := by rw [beq_eq_false_iff_ne]; exact h0
        have h3 := fun W => exclusive_any l E W
        rw [e7]
        have hk1 : ¬ k < 1 := by omega
        clear hr hp hk hc h0 hM hD hE h hs hX
        go_enter Try.func12, Try.ntmps12
        go_wp2_with fail
        rw [← HX.out]
        refine (h1).mono ?_
        rintro e w1 ⟨rfl, hb_w1⟩
        have hT1 := hT.on hb_w1
        clear p0 p1 m0 m1 m2 m3 m4 z h1 hT
        have p0 := hT1.pos.c0
        have p1 := hT1.pos.c1
        have m0 := hT1.mv.c0
        have m1 := hT1.mv.c1
        have m2 := hT1.mv.c2
        have m3 := hT1.mv.c3
        have m4 := hT1.mv.c4
        have z := hT1.mv.z
        have g2 := fun z : Gr w1 => h2 z.W
        have g3 := fun z : Gr w1 => h3 z.W
        clear h2 h3
        go_wp2_with fail
        have f_p0 := fun z : Gr w1 => z.cell p0
        have f_p1 := fun z : Gr w1 => z.cell p1
        clear p0 p1 m0 m1 m2 m3 m4 z
        refine wp_region_grow_tail 11 (by kernel_rfl) (by kernel_rfl) ?_
        simp only [List.take_succ_cons, List.take_zero, List.drop_succ_cons, List.drop_zero]
        repeat (go_big_quiet_step (first | (go_at_call 30; exact Calls.grow_of_same (g2 _)) | (go_at_call 29; exact Calls.grow_of (g3 _))))
        refine wpQuiet_nil ?_
        rintro w2 ⟨⟨_, hb_w2⟩, rfl⟩
        have hT2 := hT1.on hb_w2
        clear f_p0 f_p1
        have p0 := hT2.pos.c0
        have p1 := hT2.pos.c1
        have m0 := hT2.mv.c0
        have m1 := hT2.mv.c1
        have m2 := hT2.mv.c2
        have m3 := hT2.mv.c3
        have m4 := hT2.mv.c4
        have z := hT2.mv.z
        clear g2 g3
        go_wp2
        obtain ⟨hg, hb⟩ := hT2.ret l E 0 (-1) false
        exact ret_mv (r := (R.to l E)) (g := w.heap.size + 1) rfl rfl rfl rfl hg ⟨rfl, hb⟩
    · have hr : (leftR ls l c k) = R.no := if_neg fun hh => hk hh.2.1
      rw [hr]
      have hk1 : k < 1 := by omega
      clear hr h hs hX hp hk
      go_enter Try.func12, Try.ntmps12
      go_wp2_with fail
      rw [← HX.out]
      refine (h1).mono ?_
      rintro e w1 ⟨rfl, hb_w1⟩
      have hT1 := hT.on hb_w1
      clear p0 p1 m0 m1 m2 m3 m4 z h1 hT
      have p0 := hT1.pos.c0
      have p1 := hT1.pos.c1
      have m0 := hT1.mv.c0
      have m1 := hT1.mv.c1
      have m2 := hT1.mv.c2
      have m3 := hT1.mv.c3
      have m4 := hT1.mv.c4
      have z := hT1.mv.z
      go_wp2
      obtain ⟨hg, hb⟩ := hT1.ret 0 0 0 0 false
      exact ret_mv (r := R.no) (g := w.heap.size + 1) rfl rfl rfl rfl hg ⟨rfl, hb⟩
  · rw [decide_eq_false hp] at h1
    have hr : (leftR ls l c k) = R.no := if_neg fun hh => hp hh.1
    rw [hr]
    clear hr h hs hX hp
    go_enter Try.func12, Try.ntmps12
    go_wp2_with fail
    rw [← HX.out]
    refine (h1).mono ?_
    rintro e w1 ⟨rfl, hb_w1⟩
    have hT1 := hT.on hb_w1
    clear p0 p1 m0 m1 m2 m3 m4 z h1 hT
    have p0 := hT1.pos.c0
    have p1 := hT1.pos.c1
    have m0 := hT1.mv.c0
    have m1 := hT1.mv.c1
    have m2 := hT1.mv.c2
    have m3 := hT1.mv.c3
    have m4 := hT1.mv.c4
    have z := hT1.mv.z
    go_wp2
    obtain ⟨hg, hb⟩ := hT1.ret 0 0 0 0 false
    exact ret_mv (r := R.no) (g := w.heap.size + 1) rfl rfl rfl rfl hg ⟨rfl, hb⟩

theorem left5_any (a : Option Addr) (n c' : Nat) (ls : List ByteArray) (l c : Int) (k : Int) (w : World) (h : Ss w a n c' ls) (hs : ∀ s ∈ ls, s.size ≤ 140737488355328) :
    Calls Try.prog 13 #[.slice a n c', .agg #[.int .i64 l, .int .i64 c], .int .i64 k] w fun e w' => e = .returned ((leftR ls l c k)).v ∧ Below w.heap.size w w' := by
  obtain ⟨X, hX⟩ : ∃ X, X = ((w.alloc (.cells #[.int .i64 l, .int .i64 c] 24)).alloc (.cells #[.int .i64 0, .int .i64 0, .int .i64 0, .bool false, .int .i64 0] 32)) := ⟨_, rfl⟩
  have hT : Two w X l c := by rw [hX]; exact Two.new w l c
  have HX := Lib.hid hX
  have h1 := may_any a n c' ls l c k X (SrcV.below h hT.below)
  have p0 := hT.pos.c0
  have p1 := hT.pos.c1
  have m0 := hT.mv.c0
  have m1 := hT.mv.c1
  have m2 := hT.mv.c2
  have m3 := hT.mv.c3
  have m4 := hT.mv.c4
  have z := hT.mv.z
  have hlen := h.length
  have hn := h.le63
  by_cases hp' : Plc ls l c ∧ 1 ≤ k
  · rw [decide_eq_true hp'] at h1
    obtain ⟨hp, hk⟩ := hp'
    by_cases h0 : c = 0
    · have hr : (leftR ls l c k) = R.no := if_neg fun hh => hh.2.2 h0
      rw [hr]
      subst h0
      clear hr h hs hX hp hk
      go_enter Try.func13, Try.ntmps13
      go_wp2_with fail
      rw [← HX.out]
      refine (h1).mono ?_
      rintro e w1 ⟨rfl, hb_w1⟩
      have hT1 := hT.on hb_w1
      clear p0 p1 m0 m1 m2 m3 m4 z h1 hT
      have p0 := hT1.pos.c0
      have p1 := hT1.pos.c1
      have m0 := hT1.mv.c0
      have m1 := hT1.mv.c1
      have m2 := hT1.mv.c2
      have m3 := hT1.mv.c3
      have m4 := hT1.mv.c4
      have z := hT1.mv.z
      go_wp2_with fail
      refine (none_any _).mono ?_
      rintro e w2 ⟨rfl, hb_w2⟩
      have hT2 := hT1.on hb_w2
      clear p0 p1 m0 m1 m2 m3 m4 z
      have p0 := hT2.pos.c0
      have p1 := hT2.pos.c1
      have m0 := hT2.mv.c0
      have m1 := hT2.mv.c1
      have m2 := hT2.mv.c2
      have m3 := hT2.mv.c3
      have m4 := hT2.mv.c4
      have z := hT2.mv.z
      go_wp2
      obtain ⟨hg, hb⟩ := hT2.ret 0 0 0 0 false
      exact ret_mv (r := R.no) (g := w.heap.size + 1) rfl rfl rfl rfl hg ⟨rfl, hb⟩
    · have hr : (leftR ls l c k) = R.to l (max (c - min k 1073741824) 0) := if_pos ⟨hp, hk, h0⟩
      rw [hr]
      have hc : 0 ≤ c ∧ c ≤ 140737488355328 := by
        obtain ⟨i, m, rfl, rfl, hi, hm⟩ := hp.nat
        have := hs (ls[i]'hi) (List.getElem_mem _)
        rw [← lineAt_get hi] at this
        omega
      have h2 := fun W => capped_any k W
      generalize hM : min k 1073741824 = M at *
      obtain ⟨E, hE⟩ : ∃ E, E = max (c - M) 0 := ⟨_, rfl⟩
      obtain ⟨D, hD⟩ : ∃ D, D = min M c := ⟨_, rfl⟩
      have e1 : (if c < M then c else M) = D := by omega
      have e2 : min M c = D := hD.symm
      have e3 : IntKind.i64.wrap (c - D) = E := by rw [IntKind.wrap_i64]; omega
      have e4 : IntKind.i64.wrap (c - M) = c - M := by rw [IntKind.wrap_i64]; omega
      have e6 : (if c - M < 0 then 0 else c - M) = E := by omega
      have e7 : max (c - M) 0 = E := hE.symm
      have e5 : (c == 0) = false := by rw [beq_eq_false_iff_ne]; exact h0
      have h3 := fun W => to_any l E W
      rw [e7]
      clear hr hp hk hc h0 hM hD hE h hs hX
      go_enter Try.func13, Try.ntmps13
      go_wp2_with fail
      rw [← HX.out]
      refine (h1).mono ?_
      rintro e w1 ⟨rfl, hb_w1⟩
      have hT1 := hT.on hb_w1
      clear p0 p1 m0 m1 m2 m3 m4 z h1 hT
      have p0 := hT1.pos.c0
      have p1 := hT1.pos.c1
      have m0 := hT1.mv.c0
      have m1 := hT1.mv.c1
      have m2 := hT1.mv.c2
      have m3 := hT1.mv.c3
      have m4 := hT1.mv.c4
      have z := hT1.mv.z
      have g2 := fun z : Gr w1 => h2 z.W
      have g3 := fun z : Gr w1 => h3 z.W
      clear h2 h3
      go_wp2_with fail
      have f_p0 := fun z : Gr w1 => z.cell p0
      have f_p1 := fun z : Gr w1 => z.cell p1
      clear p0 p1 m0 m1 m2 m3 m4 z
      refine wp_region_grow_tail 11 (by kernel_rfl) (by kernel_rfl) ?_
      simp only [List.take_succ_cons, List.take_zero, List.drop_succ_cons, List.drop_zero]
      repeat (go_big_quiet_step (first | (go_at_call 34; exact Calls.grow_of_same (g2 _)) | (go_at_call 33; exact Calls.grow_of (g3 _))))
      refine wpQuiet_nil ?_
      rintro w2 ⟨⟨_, hb_w2⟩, rfl⟩
      have hT2 := hT1.on hb_w2
      clear f_p0 f_p1
      have p0 := hT2.pos.c0
      have p1 := hT2.pos.c1
      have m0 := hT2.mv.c0
      have m1 := hT2.mv.c1
      have m2 := hT2.mv.c2
      have m3 := hT2.mv.c3
      have m4 := hT2.mv.c4
      have z := hT2.mv.z
      clear g2 g3
      go_wp2
      obtain ⟨hg, hb⟩ := hT2.ret l E 0 (-1) false
      exact ret_mv (r := (R.to l E)) (g := w.heap.size + 1) rfl rfl rfl rfl hg ⟨rfl, hb⟩
  · rw [decide_eq_false hp'] at h1
    have hr : (leftR ls l c k) = R.no := if_neg fun hh => hp' ⟨hh.1, hh.2.1⟩
    rw [hr]
    clear hr h hs hX hp'
    go_enter Try.func13, Try.ntmps13
    go_wp2_with fail
    rw [← HX.out]
    refine (h1).mono ?_
    rintro e w1 ⟨rfl, hb_w1⟩
    have hT1 := hT.on hb_w1
    clear p0 p1 m0 m1 m2 m3 m4 z h1 hT
    have p0 := hT1.pos.c0
    have p1 := hT1.pos.c1
    have m0 := hT1.mv.c0
    have m1 := hT1.mv.c1
    have m2 := hT1.mv.c2
    have m3 := hT1.mv.c3
    have m4 := hT1.mv.c4
    have z := hT1.mv.z
    go_wp2_with fail
    refine (none_any _).mono ?_
    rintro e w2 ⟨rfl, hb_w2⟩
    have hT2 := hT1.on hb_w2
    clear p0 p1 m0 m1 m2 m3 m4 z
    have p0 := hT2.pos.c0
    have p1 := hT2.pos.c1
    have m0 := hT2.mv.c0
    have m1 := hT2.mv.c1
    have m2 := hT2.mv.c2
    have m3 := hT2.mv.c3
    have m4 := hT2.mv.c4
    have z := hT2.mv.z
    go_wp2
    obtain ⟨hg, hb⟩ := hT2.ret 0 0 0 0 false
    exact ret_mv (r := R.no) (g := w.heap.size + 1) rfl rfl rfl rfl hg ⟨rfl, hb⟩

end Go.Proofs.Ytaekgempoaoioaa.Ch
