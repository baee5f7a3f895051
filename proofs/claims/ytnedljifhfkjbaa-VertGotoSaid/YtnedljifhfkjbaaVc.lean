/-
  The document: Down and Up.
-/
import Derived.Test.YtnedljifhfkjbaaVb
set_option linter.unusedVariables false
set_option linter.unusedSimpArgs false
set_option maxRecDepth 100000
namespace Go.Proofs.Ytnedljifhfkjbaa.Vt
open Go Go.RowKit Go.Proofs.Ytnedljifhfkjbaa.Vk Go.Proofs.Ytnedljifhfkjbaa.Str Go.Proofs.Ytnedljifhfkjbaa.Ln Go.Proofs.Ytnedljifhfkjbaa.Cl Go.Proofs.Ytnedljifhfkjbaa.Mv
attribute [local go_sem] Oper.semAt_some

set_option maxHeartbeats 2000000 in
theorem vdown5_any (a : Option Addr) (n c' : Nat) (ls : List ByteArray) (l c : Int) (k q : Int) (w : World) (h : Ss w a n c' ls) (hs : ∀ s ∈ ls, s.size ≤ 140737488355328) (hn6 : n ≤ 1000000) :
    Calls Try.prog 12 #[.slice a n c', .agg #[.int .i64 l, .int .i64 c], .int .i64 k, .int .i64 q, .bool false] w fun e w' => e = .returned ((mayR ls l c k (wantR ls (l + min k 1073741824) q))).v ∧ Below w.heap.size w w' := by
  obtain ⟨X, hX⟩ : ∃ X, X = ((w.alloc (.cells #[.int .i64 l, .int .i64 c] 24)).alloc (.cells #[.int .i64 0, .int .i64 0, .int .i64 0, .bool false, .int .i64 0] 32)) := ⟨_, rfl⟩
  have hT : Two w X l c := by rw [hX]; exact Two.new w l c
  have HX := Lib.hid hX
  have h1 := may_any a n c' ls l c k X (SrcV.below h hT.below)
  have p0 := hT.pos.c0
  have p1 := hT.pos.c1
  have m0 := hT.mv.c0
  have m1 := hT.mv.c1
  have m2 := hT.mv.c2
  have m3 := hT.mv.c3
  have m4 := hT.mv.c4
  have z := hT.mv.z
  have hlen := h.length
  by_cases hp' : Plc ls l c ∧ 1 ≤ k
  · rw [decide_eq_true hp'] at h1
    obtain ⟨hp, hk⟩ := hp'
    have hr : (mayR ls l c k (wantR ls (l + min k 1073741824) q)) = wantR ls (l + min k 1073741824) q := if_pos ⟨hp, hk⟩
    rw [hr]
    have hl0 := hp.1
    have hl1 := hp.2.1
    have h2 := fun W => capped_any k W
    have hM1 : 1 ≤ min k 1073741824 ∧ min k 1073741824 ≤ 1073741824 := by omega
    generalize min k 1073741824 = M at *
    obtain ⟨A, hA⟩ : ∃ A, A = l + M := ⟨_, rfl⟩
    have e4 : IntKind.i64.wrap (l + M) = A := by rw [IntKind.wrap_i64]; omega
    obtain ⟨B, hB⟩ : ∃ B, B = l - M := ⟨_, rfl⟩
    have e5 : IntKind.i64.wrap (l - M) = B := by rw [IntKind.wrap_i64]; omega
    rw [← hA]
    clear hr hp hk hX
    by_cases hin : 0 ≤ A ∧ A < (n : Int)
    · have hr : wantR ls A q = ⟨A, min (min (max q 0) 1073741824) ((lineAt ls A.toNat).size - 1 : Nat), 2, false, min (max q 0) 1073741824, true⟩ := if_pos (by omega)
      rw [hr]
      obtain ⟨i, rfl⟩ : ∃ i : Nat, A = i := ⟨A.toNat, by omega⟩
      have hi : i < ls.length := by omega
      obtain ⟨b, o, rfl, hcell, hnc, _⟩ := h.read i hi
      have hlt := lineAt_get hi
      rw [← hlt] at hcell
      have hsz := hs (ls[i]'hi) (List.getElem_mem _)
      rw [← hlt] at hsz
      rw [Int.toNat_natCast]
      rw [hlen] at hi
      clear hr hlt h hs hlen
      generalize lineAt ls i = s at *
      obtain ⟨E, hE⟩ : ∃ E, E = max q 0 := ⟨_, rfl⟩
      obtain ⟨V, hV⟩ : ∃ V, V = min E 1073741824 := ⟨_, rfl⟩
      have e6 : (if q < 0 then 0 else q) = E := by omega
      have e7 : (if 1073741824 < E then 1073741824 else E) = V := by omega
      have e8 : max q 0 = E := hE.symm
      have e9 : min E 1073741824 = V := hV.symm
      rw [e8, e9]
      have h5 := fun W => last5_any s W (by omega)
      generalize s.size - 1 = T at *
      obtain ⟨C, hC⟩ : ∃ C, C = min V (T : Int) := ⟨_, rfl⟩
      have e10 : (if (T : Int) < V then (T : Int) else V) = C := by omega
      have e11 : min V (T : Int) = C := hC.symm
      rw [e11]
      have d3 : decide ((i : Int) < 0) = false := decide_eq_false (by omega)
      have d4 : decide (n ≤ i) = false := decide_eq_false (by omega)
      have hcl := fun W (hW : Below w.heap.size w W) => cell_later hW hcell
      clear hE hV hC hA hB hl0 hl1 hM1 hin hcell
      go_enter Try.func12, Try.ntmps12
      go_wp2_with fail
      rw [← HX.out]
      refine (h1).mono ?_
      rintro e w1 ⟨rfl, hb_w1⟩
      have hT1 := hT.on hb_w1
      clear p0 p1 m0 m1 m2 m3 m4 z h1
      have p0 := hT1.pos.c0
      have p1 := hT1.pos.c1
      have m0 := hT1.mv.c0
      have m1 := hT1.mv.c1
      have m2 := hT1.mv.c2
      have m3 := hT1.mv.c3
      have m4 := hT1.mv.c4
      have z := hT1.mv.z
      go_wp2_with fail
      have f_p0 := fun z : Gr w1 => z.cell p0
      have f_p1 := fun z : Gr w1 => z.cell p1
      have g2 := fun z : Gr w1 => h2 z.W
      clear p0 p1 m0 m1 m2 m3 m4 z
      refine wp_region_grow (by kernel_rfl) (by kernel_rfl) ?_
      repeat (go_big_quiet_step (first | (go_at_call 32; exact Calls.grow_of_same (g2 _))))
      refine wpQuiet_nil ?_
      rintro w2 ⟨⟨_, hb_w2⟩, rfl⟩
      have hT2 := hT1.on hb_w2
      clear f_p0 f_p1 g2 
      have p0 := hT2.pos.c0
      have p1 := hT2.pos.c1
      have m0 := hT2.mv.c0
      have m1 := hT2.mv.c1
      have m2 := hT2.mv.c2
      have m3 := hT2.mv.c3
      have m4 := hT2.mv.c4
      have z := hT2.mv.z

      have hc1 := hcl _ hT2.below
      clear hcl
      go_wp2_with fail
      refine (h5 _).mono ?_
      rintro e w' ⟨rfl, rfl⟩
      clear h5
      go_wp2
      obtain ⟨hg, hb⟩ := hT2.ret i C 2 V false
      exact ret_mv (r := ⟨i, C, 2, false, V, true⟩) (g := w.heap.size + 1) rfl rfl rfl rfl hg ⟨rfl, hb⟩
    · have hr : wantR ls A q = R.no := if_neg (by omega)
      rw [hr]
      by_cases h0 : A < 0
      · have d1 : decide (A < 0) = true := decide_eq_true h0
        clear hr hin h hs hlen hA hB hl0 hl1 hM1 h0
        go_enter Try.func12, Try.ntmps12
        go_wp2_with fail
        rw [← HX.out]
        refine (h1).mono ?_
        rintro e w1 ⟨rfl, hb_w1⟩
        have hT1 := hT.on hb_w1
        clear p0 p1 m0 m1 m2 m3 m4 z h1
        have p0 := hT1.pos.c0
        have p1 := hT1.pos.c1
        have m0 := hT1.mv.c0
        have m1 := hT1.mv.c1
        have m2 := hT1.mv.c2
        have m3 := hT1.mv.c3
        have m4 := hT1.mv.c4
        have z := hT1.mv.z
        go_wp2_with fail
        have f_p0 := fun z : Gr w1 => z.cell p0
        have f_p1 := fun z : Gr w1 => z.cell p1
        have g2 := fun z : Gr w1 => h2 z.W
        clear p0 p1 m0 m1 m2 m3 m4 z
        refine wp_region_grow (by kernel_rfl) (by kernel_rfl) ?_
        repeat (go_big_quiet_step (first | (go_at_call 32; exact Calls.grow_of_same (g2 _))))
        refine wpQuiet_nil ?_
        rintro w2 ⟨⟨_, hb_w2⟩, rfl⟩
        have hT2 := hT1.on hb_w2
        clear f_p0 f_p1 g2 
        have p0 := hT2.pos.c0
        have p1 := hT2.pos.c1
        have m0 := hT2.mv.c0
        have m1 := hT2.mv.c1
        have m2 := hT2.mv.c2
        have m3 := hT2.mv.c3
        have m4 := hT2.mv.c4
        have z := hT2.mv.z

        go_wp2_with fail
        refine (none_any _).mono ?_
        rintro e w4 ⟨rfl, hb_w4⟩
        have hT4 := hT2.on hb_w4
        clear p0 p1 m0 m1 m2 m3 m4 z
        have p0 := hT4.pos.c0
        have p1 := hT4.pos.c1
        have m0 := hT4.mv.c0
        have m1 := hT4.mv.c1
        have m2 := hT4.mv.c2
        have m3 := hT4.mv.c3
        have m4 := hT4.mv.c4
        have z := hT4.mv.z
        go_wp2
        obtain ⟨hg, hb⟩ := hT4.ret 0 0 0 0 false
        exact ret_mv (r := R.no) (g := w.heap.size + 1) rfl rfl rfl rfl hg ⟨rfl, hb⟩
      · have d1 : decide (A < 0) = false := decide_eq_false h0
        have d2 : decide ((n : Int) ≤ A) = true := decide_eq_true (by omega)
        clear hr hin h hs hlen hA hB hl0 hl1 hM1 h0
        go_enter Try.func12, Try.ntmps12
        go_wp2_with fail
        rw [← HX.out]
        refine (h1).mono ?_
        rintro e w1 ⟨rfl, hb_w1⟩
        have hT1 := hT.on hb_w1
        clear p0 p1 m0 m1 m2 m3 m4 z h1
        have p0 := hT1.pos.c0
        have p1 := hT1.pos.c1
        have m0 := hT1.mv.c0
        have m1 := hT1.mv.c1
        have m2 := hT1.mv.c2
        have m3 := hT1.mv.c3
        have m4 := hT1.mv.c4
        have z := hT1.mv.z
        go_wp2_with fail
        have f_p0 := fun z : Gr w1 => z.cell p0
        have f_p1 := fun z : Gr w1 => z.cell p1
        have g2 := fun z : Gr w1 => h2 z.W
        clear p0 p1 m0 m1 m2 m3 m4 z
        refine wp_region_grow (by kernel_rfl) (by kernel_rfl) ?_
        repeat (go_big_quiet_step (first | (go_at_call 32; exact Calls.grow_of_same (g2 _))))
        refine wpQuiet_nil ?_
        rintro w2 ⟨⟨_, hb_w2⟩, rfl⟩
        have hT2 := hT1.on hb_w2
        clear f_p0 f_p1 g2 
        have p0 := hT2.pos.c0
        have p1 := hT2.pos.c1
        have m0 := hT2.mv.c0
        have m1 := hT2.mv.c1
        have m2 := hT2.mv.c2
        have m3 := hT2.mv.c3
        have m4 := hT2.mv.c4
        have z := hT2.mv.z

        go_wp2_with fail
        refine (none_any _).mono ?_
        rintro e w4 ⟨rfl, hb_w4⟩
        have hT4 := hT2.on hb_w4
        clear p0 p1 m0 m1 m2 m3 m4 z
        have p0 := hT4.pos.c0
        have p1 := hT4.pos.c1
        have m0 := hT4.mv.c0
        have m1 := hT4.mv.c1
        have m2 := hT4.mv.c2
        have m3 := hT4.mv.c3
        have m4 := hT4.mv.c4
        have z := hT4.mv.z
        go_wp2
        obtain ⟨hg, hb⟩ := hT4.ret 0 0 0 0 false
        exact ret_mv (r := R.no) (g := w.heap.size + 1) rfl rfl rfl rfl hg ⟨rfl, hb⟩
  · rw [decide_eq_false hp'] at h1
    have hr : (mayR ls l c k (wantR ls (l + min k 1073741824) q)) = R.no := if_neg fun hh => hp' hh
    rw [hr]
    clear hr h hs hX hp'
    go_enter Try.func12, Try.ntmps12
    go_wp2_with fail
    rw [← HX.out]
    refine (h1).mono ?_
    rintro e w1 ⟨rfl, hb_w1⟩
    have hT1 := hT.on hb_w1
    clear p0 p1 m0 m1 m2 m3 m4 z h1 hT
    have p0 := hT1.pos.c0
    have p1 := hT1.pos.c1
    have m0 := hT1.mv.c0
    have m1 := hT1.mv.c1
    have m2 := hT1.mv.c2
    have m3 := hT1.mv.c3
    have m4 := hT1.mv.c4
    have z := hT1.mv.z
    go_wp2_with fail
    refine (none_any _).mono ?_
    rintro e w2 ⟨rfl, hb_w2⟩
    have hT2 := hT1.on hb_w2
    clear p0 p1 m0 m1 m2 m3 m4 z
    have p0 := hT2.pos.c0
    have p1 := hT2.pos.c1
    have m0 := hT2.mv.c0
    have m1 := hT2.mv.c1
    have m2 := hT2.mv.c2
    have m3 := hT2.mv.c3
    have m4 := hT2.mv.c4
    have z := hT2.mv.z
    go_wp2
    obtain ⟨hg, hb⟩ := hT2.ret 0 0 0 0 false
    exact ret_mv (r := R.no) (g := w.heap.size + 1) rfl rfl rfl rfl hg ⟨rfl, hb⟩

set_option maxHeartbeats 2000000 in
theorem vup5_any (a : Option Addr) (n c' : Nat) (ls : List ByteArray) (l c : Int) (k q : Int) (w : World) (h : Ss w a n c' ls) (hs : ∀ s ∈ ls, s.size ≤ 140737488355328) (hn6 : n ≤ 1000000) :
    Calls Try.prog 12 #[.slice a n c', .agg #[.int .i64 l, .int .i64 c], .int .i64 k, .int .i64 q, .bool true] w fun e w' => e = .returned ((mayR ls l c k (wantR ls (l - min k 1073741824) q))).v ∧ Below w.heap.size w w' := by
  obtain ⟨X, hX⟩ : ∃ X, X = ((w.alloc (.cells #[.int .i64 l, .int .i64 c] 24)).alloc (.cells #[.int .i64 0, .int .i64 0, .int .i64 0, .bool false, .int .i64 0] 32)) := ⟨_, rfl⟩
  have hT : Two w X l c := by rw [hX]; exact Two.new w l c
  have HX := Lib.hid hX
  have h1 := may_any a n c' ls l c k X (SrcV.below h hT.below)
  have p0 := hT.pos.c0
  have p1 := hT.pos.c1
  have m0 := hT.mv.c0
  have m1 := hT.mv.c1
  have m2 := hT.mv.c2
  have m3 := hT.mv.c3
  have m4 := hT.mv.c4
  have z := hT.mv.z
  have hlen := h.length
  by_cases hp' : Plc ls l c ∧ 1 ≤ k
  · rw [decide_eq_true hp'] at h1
    obtain ⟨hp, hk⟩ := hp'
    have hr : (mayR ls l c k (wantR ls (l - min k 1073741824) q)) = wantR ls (l - min k 1073741824) q := if_pos ⟨hp, hk⟩
    rw [hr]
    have hl0 := hp.1
    have hl1 := hp.2.1
    have h2 := fun W => capped_any k W
    have hM1 : 1 ≤ min k 1073741824 ∧ min k 1073741824 ≤ 1073741824 := by omega
    generalize min k 1073741824 = M at *
    obtain ⟨A, hA⟩ : ∃ A, A = l + M := ⟨_, rfl⟩
    have e4 : IntKind.i64.wrap (l + M) = A := by rw [IntKind.wrap_i64]; omega
    obtain ⟨B, hB⟩ : ∃ B, B = l - M := ⟨_, rfl⟩
    have e5 : IntKind.i64.wrap (l - M) = B := by rw [IntKind.wrap_i64]; omega
    rw [← hB]
    clear hr hp hk hX
    by_cases hin : 0 ≤ B ∧ B < (n : Int)
    · have hr : wantR ls B q = ⟨B, min (min (max q 0) 1073741824) ((lineAt ls B.toNat).size - 1 : Nat), 2, false, min (max q 0) 1073741824, true⟩ := if_pos (by omega)
      rw [hr]
      obtain ⟨i, rfl⟩ : ∃ i : Nat, B = i := ⟨B.toNat, by omega⟩
      have hi : i < ls.length := by omega
      obtain ⟨b, o, rfl, hcell, hnc, _⟩ := h.read i hi
      have hlt := lineAt_get hi
      rw [← hlt] at hcell
      have hsz := hs (ls[i]'hi) (List.getElem_mem _)
      rw [← hlt] at hsz
      rw [Int.toNat_natCast]
      rw [hlen] at hi
      clear hr hlt h hs hlen
      generalize lineAt ls i = s at *
      obtain ⟨E, hE⟩ : ∃ E, E = max q 0 := ⟨_, rfl⟩
      obtain ⟨V, hV⟩ : ∃ V, V = min E 1073741824 := ⟨_, rfl⟩
      have e6 : (if q < 0 then 0 else q) = E := by omega
      have e7 : (if 1073741824 < E then 1073741824 else E) = V := by omega
      have e8 : max q 0 = E := hE.symm
      have e9 : min E 1073741824 = V := hV.symm
      rw [e8, e9]
      have h5 := fun W => last5_any s W (by omega)
      generalize s.size - 1 = T at *
      obtain ⟨C, hC⟩ : ∃ C, C = min V (T : Int) := ⟨_, rfl⟩
      have e10 : (if (T : Int) < V then (T : Int) else V) = C := by omega
      have e11 : min V (T : Int) = C := hC.symm
      rw [e11]
      have d3 : decide ((i : Int) < 0) = false := decide_eq_false (by omega)
      have d4 : decide (n ≤ i) = false := decide_eq_false (by omega)
      have hcl := fun W (hW : Below w.heap.size w W) => cell_later hW hcell
      clear hE hV hC hA hB hl0 hl1 hM1 hin hcell
      go_enter Try.func12, Try.ntmps12
      go_wp2_with fail
      rw [← HX.out]
      refine (h1).mono ?_
      rintro e w1 ⟨rfl, hb_w1⟩
      have hT1 := hT.on hb_w1
      clear p0 p1 m0 m1 m2 m3 m4 z h1
      have p0 := hT1.pos.c0
      have p1 := hT1.pos.c1
      have m0 := hT1.mv.c0
      have m1 := hT1.mv.c1
      have m2 := hT1.mv.c2
      have m3 := hT1.mv.c3
      have m4 := hT1.mv.c4
      have z := hT1.mv.z
      go_wp2_with fail
      have f_p0 := fun z : Gr w1 => z.cell p0
      have f_p1 := fun z : Gr w1 => z.cell p1
      have g2 := fun z : Gr w1 => h2 z.W
      clear p0 p1 m0 m1 m2 m3 m4 z
      refine wp_region_grow (by kernel_rfl) (by kernel_rfl) ?_
      repeat (go_big_quiet_step (first | (go_at_call 32; exact Calls.grow_of_same (g2 _))))
      refine wpQuiet_nil ?_
      rintro w2 ⟨⟨_, hb_w2⟩, rfl⟩
      have hT2 := hT1.on hb_w2
      clear f_p0 f_p1 g2 
      have p0 := hT2.pos.c0
      have p1 := hT2.pos.c1
      have m0 := hT2.mv.c0
      have m1 := hT2.mv.c1
      have m2 := hT2.mv.c2
      have m3 := hT2.mv.c3
      have m4 := hT2.mv.c4
      have z := hT2.mv.z
      go_wp2_with fail
      have f_p0 := fun z : Gr w2 => z.cell p0
      have f_p1 := fun z : Gr w2 => z.cell p1
      have g2 := fun z : Gr w2 => h2 z.W
      clear p0 p1 m0 m1 m2 m3 m4 z
      refine wp_region_grow (by kernel_rfl) (by kernel_rfl) ?_
      repeat (go_big_quiet_step (first | (go_at_call 32; exact Calls.grow_of_same (g2 _))))
      refine wpQuiet_nil ?_
      rintro w3 ⟨⟨_, hb_w3⟩, rfl⟩
      have hT3 := hT2.on hb_w3
      clear f_p0 f_p1 g2 
      have p0 := hT3.pos.c0
      have p1 := hT3.pos.c1
      have m0 := hT3.mv.c0
      have m1 := hT3.mv.c1
      have m2 := hT3.mv.c2
      have m3 := hT3.mv.c3
      have m4 := hT3.mv.c4
      have z := hT3.mv.z
      have hc1 := hcl _ hT3.below
      clear hcl
      go_wp2_with fail
      refine (h5 _).mono ?_
      rintro e w' ⟨rfl, rfl⟩
      clear h5
      go_wp2
      obtain ⟨hg, hb⟩ := hT3.ret i C 2 V false
      exact ret_mv (r := ⟨i, C, 2, false, V, true⟩) (g := w.heap.size + 1) rfl rfl rfl rfl hg ⟨rfl, hb⟩
    · have hr : wantR ls B q = R.no := if_neg (by omega)
      rw [hr]
      by_cases h0 : B < 0
      · have d1 : decide (B < 0) = true := decide_eq_true h0
        clear hr hin h hs hlen hA hB hl0 hl1 hM1 h0
        go_enter Try.func12, Try.ntmps12
        go_wp2_with fail
        rw [← HX.out]
        refine (h1).mono ?_
        rintro e w1 ⟨rfl, hb_w1⟩
        have hT1 := hT.on hb_w1
        clear p0 p1 m0 m1 m2 m3 m4 z h1
        have p0 := hT1.pos.c0
        have p1 := hT1.pos.c1
        have m0 := hT1.mv.c0
        have m1 := hT1.mv.c1
        have m2 := hT1.mv.c2
        have m3 := hT1.mv.c3
        have m4 := hT1.mv.c4
        have z := hT1.mv.z
        go_wp2_with fail
        have f_p0 := fun z : Gr w1 => z.cell p0
        have f_p1 := fun z : Gr w1 => z.cell p1
        have g2 := fun z : Gr w1 => h2 z.W
        clear p0 p1 m0 m1 m2 m3 m4 z
        refine wp_region_grow (by kernel_rfl) (by kernel_rfl) ?_
        repeat (go_big_quiet_step (first | (go_at_call 32; exact Calls.grow_of_same (g2 _))))
        refine wpQuiet_nil ?_
        rintro w2 ⟨⟨_, hb_w2⟩, rfl⟩
        have hT2 := hT1.on hb_w2
        clear f_p0 f_p1 g2 
        have p0 := hT2.pos.c0
        have p1 := hT2.pos.c1
        have m0 := hT2.mv.c0
        have m1 := hT2.mv.c1
        have m2 := hT2.mv.c2
        have m3 := hT2.mv.c3
        have m4 := hT2.mv.c4
        have z := hT2.mv.z
        go_wp2_with fail
        have f_p0 := fun z : Gr w2 => z.cell p0
        have f_p1 := fun z : Gr w2 => z.cell p1
        have g2 := fun z : Gr w2 => h2 z.W
        clear p0 p1 m0 m1 m2 m3 m4 z
        refine wp_region_grow (by kernel_rfl) (by kernel_rfl) ?_
        repeat (go_big_quiet_step (first | (go_at_call 32; exact Calls.grow_of_same (g2 _))))
        refine wpQuiet_nil ?_
        rintro w3 ⟨⟨_, hb_w3⟩, rfl⟩
        have hT3 := hT2.on hb_w3
        clear f_p0 f_p1 g2 
        have p0 := hT3.pos.c0
        have p1 := hT3.pos.c1
        have m0 := hT3.mv.c0
        have m1 := hT3.mv.c1
        have m2 := hT3.mv.c2
        have m3 := hT3.mv.c3
        have m4 := hT3.mv.c4
        have z := hT3.mv.z
        go_wp2_with fail
        refine (none_any _).mono ?_
        rintro e w4 ⟨rfl, hb_w4⟩
        have hT4 := hT3.on hb_w4
        clear p0 p1 m0 m1 m2 m3 m4 z
        have p0 := hT4.pos.c0
        have p1 := hT4.pos.c1
        have m0 := hT4.mv.c0
        have m1 := hT4.mv.c1
        have m2 := hT4.mv.c2
        have m3 := hT4.mv.c3
        have m4 := hT4.mv.c4
        have z := hT4.mv.z
        go_wp2
        obtain ⟨hg, hb⟩ := hT4.ret 0 0 0 0 false
        exact ret_mv (r := R.no) (g := w.heap.size + 1) rfl rfl rfl rfl hg ⟨rfl, hb⟩
      · have d1 : decide (B < 0) = false := decide_eq_false h0
        have d2 : decide ((n : Int) ≤ B) = true := decide_eq_true (by omega)
        clear hr hin h hs hlen hA hB hl0 hl1 hM1 h0
        go_enter Try.func12, Try.ntmps12
        go_wp2_with fail
        rw [← HX.out]
        refine (h1).mono ?_
        rintro e w1 ⟨rfl, hb_w1⟩
        have hT1 := hT.on hb_w1
        clear p0 p1 m0 m1 m2 m3 m4 z h1
        have p0 := hT1.pos.c0
        have p1 := hT1.pos.c1
        have m0 := hT1.mv.c0
        have m1 := hT1.mv.c1
        have m2 := hT1.mv.c2
        have m3 := hT1.mv.c3
        have m4 := hT1.mv.c4
        have z := hT1.mv.z
        go_wp2_with fail
        have f_p0 := fun z : Gr w1 => z.cell p0
        have f_p1 := fun z : Gr w1 => z.cell p1
        have g2 := fun z : Gr w1 => h2 z.W
        clear p0 p1 m0 m1 m2 m3 m4 z
        refine wp_region_grow (by kernel_rfl) (by kernel_rfl) ?_
        repeat (go_big_quiet_step (first | (go_at_call 32; exact Calls.grow_of_same (g2 _))))
        refine wpQuiet_nil ?_
        rintro w2 ⟨⟨_, hb_w2⟩, rfl⟩
        have hT2 := hT1.on hb_w2
        clear f_p0 f_p1 g2 
        have p0 := hT2.pos.c0
        have p1 := hT2.pos.c1
        have m0 := hT2.mv.c0
        have m1 := hT2.mv.c1
        have m2 := hT2.mv.c2
        have m3 := hT2.mv.c3
        have m4 := hT2.mv.c4
        have z := hT2.mv.z
        go_wp2_with fail
        have f_p0 := fun z : Gr w2 => z.cell p0
        have f_p1 := fun z : Gr w2 => z.cell p1
        have g2 := fun z : Gr w2 => h2 z.W
        clear p0 p1 m0 m1 m2 m3 m4 z
        refine wp_region_grow (by kernel_rfl) (by kernel_rfl) ?_
        repeat (go_big_quiet_step (first | (go_at_call 32; exact Calls.grow_of_same (g2 _))))
        refine wpQuiet_nil ?_
        rintro w3 ⟨⟨_, hb_w3⟩, rfl⟩
        have hT3 := hT2.on hb_w3
        clear f_p0 f_p1 g2 
        have p0 := hT3.pos.c0
        have p1 := hT3.pos.c1
        have m0 := hT3.mv.c0
        have m1 := hT3.mv.c1
        have m2 := hT3.mv.c2
        have m3 := hT3.mv.c3
        have m4 := hT3.mv.c4
        have z := hT3.mv.z
        go_wp2_with fail
        refine (none_any _).mono ?_
        rintro e w4 ⟨rfl, hb_w4⟩
        have hT4 := hT3.on hb_w4
        clear p0 p1 m0 m1 m2 m3 m4 z
        have p0 := hT4.pos.c0
        have p1 := hT4.pos.c1
        have m0 := hT4.mv.c0
        have m1 := hT4.mv.c1
        have m2 := hT4.mv.c2
        have m3 := hT4.mv.c3
        have m4 := hT4.mv.c4
        have z := hT4.mv.z
        go_wp2
        obtain ⟨hg, hb⟩ := hT4.ret 0 0 0 0 false
        exact ret_mv (r := R.no) (g := w.heap.size + 1) rfl rfl rfl rfl hg ⟨rfl, hb⟩
  · rw [decide_eq_false hp'] at h1
    have hr : (mayR ls l c k (wantR ls (l - min k 1073741824) q)) = R.no := if_neg fun hh => hp' hh
    rw [hr]
    clear hr h hs hX hp'
    go_enter Try.func12, Try.ntmps12
    go_wp2_with fail
    rw [← HX.out]
    refine (h1).mono ?_
    rintro e w1 ⟨rfl, hb_w1⟩
    have hT1 := hT.on hb_w1
    clear p0 p1 m0 m1 m2 m3 m4 z h1 hT
    have p0 := hT1.pos.c0
    have p1 := hT1.pos.c1
    have m0 := hT1.mv.c0
    have m1 := hT1.mv.c1
    have m2 := hT1.mv.c2
    have m3 := hT1.mv.c3
    have m4 := hT1.mv.c4
    have z := hT1.mv.z
    go_wp2_with fail
    refine (none_any _).mono ?_
    rintro e w2 ⟨rfl, hb_w2⟩
    have hT2 := hT1.on hb_w2
    clear p0 p1 m0 m1 m2 m3 m4 z
    have p0 := hT2.pos.c0
    have p1 := hT2.pos.c1
    have m0 := hT2.mv.c0
    have m1 := hT2.mv.c1
    have m2 := hT2.mv.c2
    have m3 := hT2.mv.c3
    have m4 := hT2.mv.c4
    have z := hT2.mv.z
    go_wp2
    obtain ⟨hg, hb⟩ := hT2.ret 0 0 0 0 false
    exact ret_mv (r := R.no) (g := w.heap.size + 1) rfl rfl rfl rfl hg ⟨rfl, hb⟩


end Go.Proofs.Ytnedljifhfkjbaa.Vt
