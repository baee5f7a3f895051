/-
  Package vert and the document: counted, has, inside; the motion to a line's first byte that is no blank, and to a wanted column.
-/
import Derived.Test.YtnedljifhfkjbaaTw
import Derived.Test.YtnedljifhfkjbaaMp
set_option linter.unusedVariables false
set_option linter.unusedSimpArgs false
set_option maxRecDepth 100000
namespace Go.Proofs.Ytnedljifhfkjbaa.Vt
open Go Go.RowKit Go.Proofs.Ytnedljifhfkjbaa.Vk Go.Proofs.Ytnedljifhfkjbaa.Str Go.Proofs.Ytnedljifhfkjbaa.Ln Go.Proofs.Ytnedljifhfkjbaa.Cl Go.Proofs.Ytnedljifhfkjbaa.Mv
attribute [local go_sem] Oper.semAt_some

theorem counted_any (n : Int) (w : World) : Calls Try.prog 29 #[.int .i64 n] w fun e w' => e = .returned (.int .i64 (min n 1073741824)) ∧ w = w' := by
  go_enter Try.func29, Try.ntmps29
  go_wp2
  all_goals go_ret
  all_goals exact ⟨ret_int (by omega), rfl⟩

theorem has_any (a : Option Addr) (n c' : Nat) (l : Int) (w : World) : Calls Try.prog 38 #[.slice a n c', .int .i64 l] w fun e w' => e = .returned (.bool (decide (0 ≤ l ∧ l < n))) ∧ w = w' := by
  by_cases h1 : 0 ≤ l
  · have hd : decide (0 ≤ l ∧ l < (n : Int)) = decide (l < (n : Int)) := by rw [decide_eq_decide]; omega
    rw [hd]
    have d1 : decide (0 ≤ l) = true := decide_eq_true h1
    clear hd
    by_cases h2 : l < (n : Int)
    · have d2 : decide (l < (n : Int)) = true := decide_eq_true h2
      go_enter Try.func38, Try.ntmps38
      go_wp2
      go_ret
      exact ⟨by simp [h2], rfl⟩
    · have d2 : decide (l < (n : Int)) = false := decide_eq_false h2
      go_enter Try.func38, Try.ntmps38
      go_wp2
      go_ret
      exact ⟨by simp [h2], rfl⟩
  · have hd : decide (0 ≤ l ∧ l < (n : Int)) = false := decide_eq_false (by omega)
    rw [hd]
    have d1 : decide (0 ≤ l) = false := decide_eq_false h1
    clear hd
    go_enter Try.func38, Try.ntmps38
    go_wp2
    go_ret
    exact ⟨rfl, rfl⟩

theorem plc_cl {ls : List ByteArray} {l c : Int} (h : 0 < ls.length) : (decide ((clL ls l : Int) = l) && decide ((clC ls l c true : Int) = c)) = decide (Plc ls l c) := by
  rw [Bool.eq_iff_iff]
  simp only [Bool.and_eq_true, decide_eq_true_eq]
  unfold clC clL Plc top
  rw [if_pos rfl]
  have hl := cl_lt l h
  constructor
  · rintro ⟨h1, h2⟩
    have e : cl ls.length l = l.toNat := by omega
    rw [e] at h2
    generalize (lineAt ls l.toNat).size = z at *
    unfold cl at h2
    omega
  · rintro ⟨h1, h2, h3, h4⟩
    have e : cl ls.length l = l.toNat := by unfold cl; omega
    rw [e]
    generalize (lineAt ls l.toNat).size = z at *
    unfold cl
    omega

theorem inside_any (a : Option Addr) (n c' : Nat) (ls : List ByteArray) (l c : Int) (w : World) (h : Ss w a n c' ls) (hs : ∀ s ∈ ls, s.size ≤ 140737488355328) :
    Calls Try.prog 27 #[.slice a n c', .agg #[.int .i64 l, .int .i64 c]] w fun e w' => e = .returned (.bool (decide (Plc ls l c))) ∧ Below w.heap.size w w' := by
  have hlen := h.length
  obtain ⟨X, hX⟩ : ∃ X, X = w.alloc (.cells #[.int .i64 l, .int .i64 c] 24) := ⟨_, rfl⟩
  have hb0 : Below w.heap.size w X := by rw [hX]; exact (Below.refl _ w).alloc (Nat.le_refl _) _
  have hp : PosAt X w.heap.size l c := by rw [hX]; exact PosAt.new w l c
  have HX := Lib.hid hX
  have HB := Lib.hid hb0
  by_cases h0 : 0 < n
  · have f0 := fun z : Gr X => z.cell hp.c0
    have f1 := fun z : Gr X => z.cell hp.c1
    have hx := SrcV.below h hb0
    have h5 := fun z : Gr X => clamp_any a n c' ls l c true z.W (SrcV.below hx z.below) hs
    have he := fun W => eq_pos (clL ls l) (clC ls l c true) l c W
    have d0 : decide (0 < n) = true := decide_eq_true h0
    rw [← plc_cl (by omega)]
    clear h hx hX hb0 hs hp hlen
    go_enter Try.func27, Try.ntmps27
    go_wp2
    rw [← HX.out]
    refine wp_region_grow (by kernel_rfl) (by kernel_rfl) ?_
    repeat (go_big_quiet_step (first | (go_at_call 37; exact Calls.grow_of (h5 _))))
    refine wpQuiet_nil ?_
    rintro _ ⟨⟨X5, hX5⟩, rfl⟩
    go_wp2
    go_ret
    exact ⟨rfl, HB.out.trans (hX5.mono HB.out.size)⟩
  · obtain rfl : n = 0 := by omega
    have hd : decide (Plc ls l c) = false := decide_eq_false fun hp => by have := hp.1; have := hp.2.1; omega
    rw [hd]
    clear h hX hb0 hs hp hlen hd
    go_enter Try.func27, Try.ntmps27
    go_wp2
    rw [← HX.out]
    refine wp_region_grow (by kernel_rfl) (by kernel_rfl) ?_
    repeat (go_big_quiet_step (fail))
    refine wpQuiet_nil ?_
    rintro _ ⟨⟨X5, hX5⟩, rfl⟩
    go_wp2
    go_ret
    exact ⟨rfl, HB.out.trans (hX5.mono HB.out.size)⟩

theorem top_cl (ls : List ByteArray) {i : Nat} (h : i < ls.length) (past : Bool) : clC ls (i : Int) ((lineAt ls i).size : Int) past = top (lineAt ls i) past := by
  unfold clC clL
  rw [cl_in h]
  generalize lineAt ls i = s
  unfold top
  cases past
  · rw [if_neg (by decide)]; unfold cl; omega
  · rw [if_pos rfl]; unfold cl; omega


/-- To a line's first byte that is no blank. -/
def lineR (ls : List ByteArray) (l : Int) (j : Bool) : R := if 0 ≤ l ∧ l < ls.length then ⟨l, fst (lineAt ls l.toNat), 2, j, -1, true⟩ else R.no
/-- To a wanted column. -/
def wantR (ls : List ByteArray) (l q : Int) : R := if 0 ≤ l ∧ l < ls.length then ⟨l, min (min (max q 0) 1073741824) ((lineAt ls l.toNat).size - 1 : Nat), 2, false, min (max q 0) 1073741824, true⟩ else R.no

theorem tofirst_any (a : Option Addr) (n c' : Nat) (ls : List ByteArray) (l : Int) (j : Bool) (w : World) (h : Ss w a n c' ls) (hs : ∀ s ∈ ls, s.size ≤ 140737488355328) :
    Calls Try.prog 34 #[.slice a n c', .int .i64 l, .bool j] w fun e w' => e = .returned (lineR ls l j).v ∧ Below w.heap.size w w' := by
  have hlen := h.length
  have hn := h.le63
  have h1 := fun W => has_any a n c' l W
  by_cases hp : 0 ≤ l ∧ l < (n : Int)
  · have hr : lineR ls l j = ⟨l, fst (lineAt ls l.toNat), 2, j, -1, true⟩ := if_pos (by omega)
    rw [hr]
    rw [decide_eq_true hp] at h1
    obtain ⟨i, rfl⟩ : ∃ i : Nat, l = i := ⟨l.toNat, by omega⟩
    have hi : i < ls.length := by omega
    obtain ⟨b, o, rfl, hcell, hnc, _⟩ := h.read i hi
    have hlt := lineAt_get hi
    rw [← hlt] at hcell
    have hsz := hs (ls[i]'hi) (List.getElem_mem _)
    rw [← hlt] at hsz
    rw [Int.toNat_natCast]
    rw [hlen] at hi
    have hc1 := cell_one hcell
    clear hr hp h hs hlt hcell
    generalize lineAt ls i = s at *
    have h2 := fun W => first_any s W (by omega)
    go_enter Try.func34, Try.ntmps34
    go_wp2_with fail
    refine (h1 _).mono ?_
    rintro e w' ⟨rfl, rfl⟩
    go_wp2_with fail
    refine (h2 _).mono ?_
    rintro e w' ⟨rfl, rfl⟩
    go_wp2
    exact ret_mv (r := ⟨i, fst s, 2, j, -1, true⟩) (g := w.heap.size) rfl rfl rfl rfl ((MvAt.new w _ _ _ _ _).below ((Below.refl _ _).alloc (Nat.le_refl _) _) (by simp)) ⟨rfl, two_below _ _ _⟩
  · have hr : lineR ls l j = R.no := if_neg (by omega)
    rw [hr]
    rw [decide_eq_false hp] at h1
    clear hr hp h hs
    go_enter Try.func34, Try.ntmps34
    go_wp2_with fail
    refine (h1 _).mono ?_
    rintro e w' ⟨rfl, rfl⟩
    go_wp2
    exact ret_mv (r := R.no) (g := w.heap.size) rfl rfl rfl rfl (MvAt.new w 0 0 0 0 false) ⟨rfl, (Below.refl _ w).alloc (Nat.le_refl _) _⟩
theorem line5_any (a : Option Addr) (n c' : Nat) (ls : List ByteArray) (l : Int) (j : Bool) (w : World) (h : Ss w a n c' ls) (hs : ∀ s ∈ ls, s.size ≤ 140737488355328) :
    Calls Try.prog 35 #[.slice a n c', .int .i64 l, .bool j] w fun e w' => e = .returned (lineR ls l j).v ∧ Below w.heap.size w w' := by
  have hlen := h.length
  have hn := h.le63
  by_cases hp : 0 ≤ l ∧ l < (n : Int)
  · have hr : lineR ls l j = ⟨l, fst (lineAt ls l.toNat), 2, j, -1, true⟩ := if_pos (by omega)
    rw [hr]
    have d1 : decide (l < 0) = false := decide_eq_false (by omega)
    have d2 : decide ((n : Int) ≤ l) = false := decide_eq_false (by omega)
    obtain ⟨i, rfl⟩ : ∃ i : Nat, l = i := ⟨l.toNat, by omega⟩
    have hi : i < ls.length := by omega
    obtain ⟨b, o, rfl, hcell, hnc, _⟩ := h.read i hi
    have hlt := lineAt_get hi
    rw [← hlt] at hcell
    have hsz := hs (ls[i]'hi) (List.getElem_mem _)
    rw [← hlt] at hsz
    rw [Int.toNat_natCast]
    rw [hlen] at hi
    have d3 : decide ((i : Int) < 0) = false := decide_eq_false (by omega)
    have d4 : decide (n ≤ i) = false := decide_eq_false (by omega)
    clear d1 d2
    have hc1 := cell_one hcell
    clear hr hp h hs hlt hcell
    generalize lineAt ls i = s at *
    have h2 := fun W => first5_any s W (by omega)
    go_enter Try.func35, Try.ntmps35
    go_wp2_with fail
    refine (h2 _).mono ?_
    rintro e w' ⟨rfl, rfl⟩
    go_wp2
    exact ret_mv (r := ⟨i, fst s, 2, j, -1, true⟩) (g := w.heap.size) rfl rfl rfl rfl (MvAt.new w _ _ _ _ _) ⟨rfl, (Below.refl _ w).alloc (Nat.le_refl _) _⟩
  · have hr : lineR ls l j = R.no := if_neg (by omega)
    rw [hr]
    by_cases h0 : l < 0
    · have d1 : decide (l < 0) = true := decide_eq_true h0
      have hb := (Below.refl _ w).alloc (Nat.le_refl w.heap.size) (.cells #[.int .i64 0, .int .i64 0, .int .i64 0, .bool false, .int .i64 0] 32)
      have hM := MvAt.new w 0 0 0 0 false
      obtain ⟨X, hX⟩ : ∃ X, X = w.alloc (.cells #[.int .i64 0, .int .i64 0, .int .i64 0, .bool false, .int .i64 0] 32) := ⟨_, rfl⟩
      rw [← hX] at hb hM
      have HX := Lib.hid hX
      clear hr hp h hs hX
      go_enter Try.func35, Try.ntmps35
      go_wp2_with fail
      rw [← HX.out]
      refine (none_any _).mono ?_
      rintro e w1 ⟨rfl, hb1⟩
      have M1 := hM.below hb1 hM.lt
      have B1 := hb.trans (hb1.mono hb.size)
      clear hb hb1 hM HX
      have m0 := M1.c0
      have m1 := M1.c1
      have m2 := M1.c2
      have m3 := M1.c3
      have m4 := M1.c4
      have z := M1.z
      go_wp2
      exact ret_mv (r := R.no) (g := w.heap.size) rfl rfl rfl rfl (M1.put 0 0 0 0 false) ⟨rfl, put5_below B1 (Nat.le_refl _) 0 0 0 0 false⟩
    · have d1 : decide (l < 0) = false := decide_eq_false h0
      have d2 : decide ((n : Int) ≤ l) = true := decide_eq_true (by omega)
      have hb := (Below.refl _ w).alloc (Nat.le_refl w.heap.size) (.cells #[.int .i64 0, .int .i64 0, .int .i64 0, .bool false, .int .i64 0] 32)
      have hM := MvAt.new w 0 0 0 0 false
      obtain ⟨X, hX⟩ : ∃ X, X = w.alloc (.cells #[.int .i64 0, .int .i64 0, .int .i64 0, .bool false, .int .i64 0] 32) := ⟨_, rfl⟩
      rw [← hX] at hb hM
      have HX := Lib.hid hX
      clear hr hp h hs hX
      go_enter Try.func35, Try.ntmps35
      go_wp2_with fail
      rw [← HX.out]
      refine (none_any _).mono ?_
      rintro e w1 ⟨rfl, hb1⟩
      have M1 := hM.below hb1 hM.lt
      have B1 := hb.trans (hb1.mono hb.size)
      clear hb hb1 hM HX
      have m0 := M1.c0
      have m1 := M1.c1
      have m2 := M1.c2
      have m3 := M1.c3
      have m4 := M1.c4
      have z := M1.z
      go_wp2
      exact ret_mv (r := R.no) (g := w.heap.size) rfl rfl rfl rfl (M1.put 0 0 0 0 false) ⟨rfl, put5_below B1 (Nat.le_refl _) 0 0 0 0 false⟩
theorem clC_want (ls : List ByteArray) (i : Nat) (q : Int) (h : i < ls.length) (hq : 0 ≤ q) : (clC ls i q false : Int) = min q ((lineAt ls i).size - 1 : Nat) := by
  unfold clC clL
  rw [cl_in h]
  generalize lineAt ls i = s
  unfold top cl
  rw [if_neg (by decide)]
  omega
theorem tocolumn_any (a : Option Addr) (n c' : Nat) (ls : List ByteArray) (l q : Int) (w : World) (h : Ss w a n c' ls) (hs : ∀ s ∈ ls, s.size ≤ 140737488355328) :
    Calls Try.prog 28 #[.slice a n c', .int .i64 l, .int .i64 q] w fun e w' => e = .returned (wantR ls l q).v ∧ Below w.heap.size w w' := by
  have hlen := h.length
  have hn := h.le63
  have h1 := fun W => has_any a n c' l W
  by_cases hp : 0 ≤ l ∧ l < (n : Int)
  · have hr : wantR ls l q = ⟨l, min (min (max q 0) 1073741824) ((lineAt ls l.toNat).size - 1 : Nat), 2, false, min (max q 0) 1073741824, true⟩ := if_pos (by omega)
    rw [hr]
    rw [decide_eq_true hp] at h1
    obtain ⟨i, rfl⟩ : ∃ i : Nat, l = i := ⟨l.toNat, by omega⟩
    have hi : i < ls.length := by omega
    rw [Int.toNat_natCast]
    obtain ⟨E, hE⟩ : ∃ E, E = max q 0 := ⟨_, rfl⟩
    obtain ⟨V, hV⟩ : ∃ V, V = min E 1073741824 := ⟨_, rfl⟩
    have e1 : (if q < 0 then 0 else q) = E := by omega
    have e2 : (if 1073741824 < E then 1073741824 else E) = V := by omega
    have e3 : max q 0 = E := hE.symm
    have e4 : min E 1073741824 = V := hV.symm
    rw [e3, e4, ← clC_want ls i V hi (by omega)]
    have hb := (Below.refl _ w).alloc (Nat.le_refl w.heap.size) (.cells #[.int .i64 0, .int .i64 0, .int .i64 0, .bool false, .int .i64 0] 32)
    have hM := MvAt.new w 0 0 0 0 false
    obtain ⟨X, hX⟩ : ∃ X, X = w.alloc (.cells #[.int .i64 0, .int .i64 0, .int .i64 0, .bool false, .int .i64 0] 32) := ⟨_, rfl⟩
    rw [← hX] at hb hM
    have h2 := clamp_any a n c' ls i V false X (SrcV.below h hb) hs
    have hcl : clL ls (i : Int) = i := by unfold clL; exact cl_in hi
    rw [hcl] at h2
    have HX := Lib.hid hX
    generalize (clC ls (i : Int) V false : Nat) = C at *
    clear hr hp h hs hE hV hX hcl
    go_enter Try.func28, Try.ntmps28
    go_wp2_with fail
    refine (h1 _).mono ?_
    rintro e w' ⟨rfl, rfl⟩
    go_wp2_with fail
    rw [← HX.out]
    refine h2.mono ?_
    rintro e w1 ⟨rfl, hb1⟩
    have M1 := hM.below hb1 hM.lt
    have B1 := hb.trans (hb1.mono hb.size)
    clear hb hb1 hM HX h2
    have q := fun O => M1.below ((Below.refl _ w1).alloc (Nat.le_refl _) O) M1.lt
    have b := fun O => B1.alloc B1.size O
    have m0 := fun O => (q O).c0
    have m1 := fun O => (q O).c1
    have m2 := fun O => (q O).c2
    have m3 := fun O => (q O).c3
    have m4 := fun O => (q O).c4
    have z := fun O => (q O).z
    have Q := Lib.hid q
    have B := Lib.hid b
    clear q b M1 B1
    go_wp2
    exact ret_mv (r := ⟨i, C, 2, false, V, true⟩) (g := w.heap.size) rfl rfl rfl rfl ((Q.out _).put _ _ _ _ _) ⟨rfl, put5_below (B.out _) (Nat.le_refl _) _ _ _ _ _⟩
  · have hr : wantR ls l q = R.no := if_neg (by omega)
    rw [hr]
    rw [decide_eq_false hp] at h1
    clear hr hp h hs
    go_enter Try.func28, Try.ntmps28
    go_wp2_with fail
    refine (h1 _).mono ?_
    rintro e w' ⟨rfl, rfl⟩
    go_wp2
    exact ret_mv (r := R.no) (g := w.heap.size) rfl rfl rfl rfl (MvAt.new w 0 0 0 0 false) ⟨rfl, (Below.refl _ w).alloc (Nat.le_refl _) _⟩

end Go.Proofs.Ytnedljifhfkjbaa.Vt
