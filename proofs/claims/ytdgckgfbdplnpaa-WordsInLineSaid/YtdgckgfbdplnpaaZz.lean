/-
  The document: Back, BackTail, Tail.
-/
import Derived.Test.YtdgckgfbdplnpaaZo
import Derived.Test.YtdgckgfbdplnpaaZe
import Derived.Test.YtdgckgfbdplnpaaTw
import Derived.Test.YtdgckgfbdplnpaaMp
set_option linter.unusedVariables false
set_option linter.unusedSimpArgs false
set_option maxRecDepth 100000
namespace Go.Proofs.Ytdgckgfbdplnpaa.Wd
open Go Go.RowKit Go.Proofs.Ytdgckgfbdplnpaa.Vk Go.Proofs.Ytdgckgfbdplnpaa.Str Go.Proofs.Ytdgckgfbdplnpaa.Ln Go.Proofs.Ytdgckgfbdplnpaa.Cl Go.Proofs.Ytdgckgfbdplnpaa.Mv
attribute [local go_sem] Oper.semAt_some

set_option maxHeartbeats 8000000 in
theorem back5_any (a : Option Addr) (n c' : Nat) (ls : List ByteArray) (l c : Int) (nn : Int) (big : Bool) (w : World) (h : Ss w a n c' ls) (hs : ∀ s ∈ ls, s.size ≤ 140737488355328) (htz : tz ls ≤ 900000) (hnn : nn ≤ 9223372036854775807) :
    Calls Try.prog 22 #[.slice a n c', .agg #[.int .i64 l, .int .i64 c], .int .i64 nn, .bool big] w fun e w' => e = .returned (backR ls l c nn big).v ∧ Below w.heap.size w w' := by
  have hlen := h.length
  have hn := h.le63
  by_cases hpk : Plc ls l c ∧ 1 ≤ nn
  · obtain ⟨hp, hk⟩ := hpk
    have hp0 := hp
    obtain ⟨i, k, rfl, rfl, hi, hkk⟩ := hp0.nat
    obtain ⟨m, rfl⟩ : ∃ m : Nat, nn = m := ⟨nn.toNat, by omega⟩
    have hm1 : 1 ≤ m := by omega
    have hr : backR ls i k m big = mvd (nthV (bef (sts big ls) (i, k)).reverse m) 0 := ifm_yes hp hm1
    rw [hr]
    obtain ⟨q, hq⟩ : ∃ q : P2 × Bool, q = nthV (bef (sts big ls) (i, k)).reverse m := ⟨_, rfl⟩
    rw [← hq]
    obtain ⟨r, hrr⟩ : ∃ r, r = mvd q 0 := ⟨_, rfl⟩
    rw [← hrr]
    have HQ := Lib.hid hq
    have HR := Lib.hid hrr
    clear hq hrr
    obtain ⟨X, hX⟩ : ∃ X, X = ((w.alloc (.cells #[.int .i64 (i : Int), .int .i64 (k : Int)] 35)).alloc (.cells #[.int .i64 0, .int .i64 0, .int .i64 0, .bool false, .int .i64 0] 40)) := ⟨_, rfl⟩
    have hT : Two w X i k := by rw [hX]; exact Two.new w i k
    have HX := Lib.hid hX
    have h1 := may_any a n c' ls i k m X (SrcV.below h hT.below)
    rw [decide_eq_true (p := Plc ls (i : Int) (k : Int) ∧ 1 ≤ (m : Int)) ⟨hp, hk⟩] at h1
    have hH := Lib.hid h
    have p0 := hT.pos.c0
    have p1 := hT.pos.c1
    have m0 := hT.mv.c0
    have m1 := hT.mv.c1
    have m2 := hT.mv.c2
    have m3 := hT.mv.c3
    have m4 := hT.mv.c4
    have z := hT.mv.z
    clear hr hX hp hk hkk h
    go_enter Try.func22, Try.ntmps22
    go_wp2_with fail
    rw [← HX.out]
    refine h1.mono ?_
    rintro e w1 ⟨rfl, hb_w1⟩
    have T1 := hT.on hb_w1
    clear p0 p1 m0 m1 m2 m3 m4 z h1 HX hT hb_w1
    have p0 := T1.pos.c0
    have p1 := T1.pos.c1
    have m0 := T1.mv.c0
    have m1 := T1.mv.c1
    have m2 := T1.mv.c2
    have m3 := T1.mv.c3
    have m4 := T1.mv.c4
    have z := T1.mv.z
    have HTZ := Lib.hid htz
    have HS1 := Lib.hid (SrcV.below hH.out T1.below)
    clear htz
    go_wp2_with fail
    have F_p0 := fun (C : World → Prop) (hC : Grows w1 C) (y : In C) => hC.cell p0 y
    have F_p1 := fun (C : World → Prop) (hC : Grows w1 C) (y : In C) => hC.cell p1 y
    clear p0 p1 m0 m1 m2 m3 m4 z
    refine wp_region_seg [0, 1, 3, 5] [(2, 1), (4, 1), (6, 0), (7, 0), (8, 0), (9, 3), (10, 2)] (by kernel_rfl) (by kernel_rfl) 27 rfl (by kernel_rfl) ?_
    simp only [List.map_cons, List.map_nil, opOf_succ, opOf_zero]
    apply Exists.intro
    refine ⟨fun C hC => ?_, ?_⟩
    · haveI hI := hC.one
      have f_p0 := F_p0 C hC
      have f_p1 := F_p1 C hC
      repeat (go_big_quiet_step (fail))
      exact wpQuiet_nil rfl
    clear F_p0 F_p1
    refine wpPath_call (f := 13) (args := #[.slice a n c', .bool big]) rfl rfl (fun W => by simp only [opOf_succ, opOf_zero]; go_simp) ?_
    intro A1 hb_A1
    refine (starts5_n a n c' ls big A1 (SrcV.below HS1.out hb_A1) hs HTZ.out).mono ?_
    rintro e A2 ⟨b1, N1, c1, rfl, hps1, hb_A2⟩
    refine ⟨_, rfl, hb_A2, ?_⟩
    simp only [opOf_succ, opOf_zero, Act.put, List.setIfInBounds_toArray, List.set_cons_zero, List.set_cons_succ]
    have hl2 : N1 ≤ 2000000 := by rw [← hps1.length]; exact Nat.le_trans (mks_tz _ _ _) (Nat.le_trans HTZ.out (by omega))
    refine wpPath_call (f := 45) (args := #[.slice b1 N1 c1, .agg #[.int .i64 i, .int .i64 k]]) rfl rfl (fun W => by simp only [opOf_succ, opOf_zero]; go_simp) ?_
    intro A3 hb_A3
    refine (ahead5_n b1 _ c1 (sts big ls) (i, k) A3 (hps1.below hb_A3) hl2).mono ?_
    rintro e A4 ⟨b2, N2, c2, rfl, hps, hb_A4⟩
    refine ⟨_, rfl, hb_A4, ?_⟩
    simp only [opOf_succ, opOf_zero, Act.put, List.setIfInBounds_toArray, List.set_cons_zero, List.set_cons_succ]
    have T4 := (T1.on (below_on hb_A1 hb_A2)).on (below_on hb_A3 hb_A4)
    have hnth : ∀ V, Below A4.heap.size A4 V → Calls Try.prog 41 #[.slice b2 N2 c2, .int .i64 m, .int .i64 0] V fun e w' => e = .returned (.tuple #[.agg #[.int .i64 r.l, .int .i64 r.c, .int .i64 r.way, .bool r.j, .int .i64 r.want], .bool r.ok]) ∧ Below V.heap.size V w' := fun V hV => by
      have := nth5_any b2 _ c2 ((bef (sts big ls) (i, k)).reverse) m 0 V (hps.below hV) hm1 (by omega)
      rw [← HQ.out, ← HR.out] at this
      exact this
    refine wpPath_on (r := [(9, 3), (10, 2)]) [6, 7, 8] 27 rfl (by kernel_rfl) ?_
    simp only [List.map_cons, List.map_nil, opOf_succ, opOf_zero]
    apply Exists.intro
    refine ⟨fun C hC => ?_, ?_⟩
    · haveI hI := hC.one
      repeat (go_big_quiet_step (first | (go_at_call 41; exact Calls.in_of hC (hnth _ (hC.below _ (In.isIn _))))))
      exact wpQuiet_nil rfl
    refine wpPath_store rfl fun u1 hb_u1 => ?_
    have TU := T4.on hb_u1
    refine ⟨_, rfl, run_store_mv TU.mv, ?_⟩
    simp only [opOf_succ, opOf_zero, Act.put, List.setIfInBounds_toArray, List.set_cons_zero, List.set_cons_succ]
    obtain ⟨hg5, hb5⟩ := TU.ret r.l r.c r.way r.want r.j
    refine wpPath_free (v := .bool r.ok) rfl rfl (fun _ => rfl) ?_
    simp only [opOf_succ, opOf_zero, Act.put, List.setIfInBounds_toArray, List.set_cons_zero, List.set_cons_succ]
    refine wpPath_end fun w5 hb_w5 => ?_
    have hg6 := hg5.below hb_w5 hg5.lt
    have hb6 := below_on hb5 hb_w5
    clear hg5 hb5 hb_w5
    go_wp2
    exact ret_mv (r := r) (g := w.heap.size + 1) rfl rfl rfl rfl hg6 ⟨rfl, hb6⟩
  · have hr : backR ls l c nn big = R.no := ifm_no hpk
    rw [hr]
    obtain ⟨X, hX⟩ : ∃ X, X = ((w.alloc (.cells #[.int .i64 l, .int .i64 c] 35)).alloc (.cells #[.int .i64 0, .int .i64 0, .int .i64 0, .bool false, .int .i64 0] 40)) := ⟨_, rfl⟩
    have hT : Two w X l c := by rw [hX]; exact Two.new w l c
    have HX := Lib.hid hX
    have h1 := may_any a n c' ls l c nn X (SrcV.below h hT.below)
    rw [decide_eq_false hpk] at h1
    have p0 := hT.pos.c0
    have p1 := hT.pos.c1
    have m0 := hT.mv.c0
    have m1 := hT.mv.c1
    have m2 := hT.mv.c2
    have m3 := hT.mv.c3
    have m4 := hT.mv.c4
    have z := hT.mv.z
    clear hr hX hpk h
    go_enter Try.func22, Try.ntmps22
    go_wp2_with fail
    rw [← HX.out]
    refine h1.mono ?_
    rintro e w1 ⟨rfl, hb_w1⟩
    have T1 := hT.on hb_w1
    clear p0 p1 m0 m1 m2 m3 m4 z h1
    have p0 := T1.pos.c0
    have p1 := T1.pos.c1
    have m0 := T1.mv.c0
    have m1 := T1.mv.c1
    have m2 := T1.mv.c2
    have m3 := T1.mv.c3
    have m4 := T1.mv.c4
    have z := T1.mv.z
    go_wp2_with fail
    refine (none_any' _).mono ?_
    rintro e w2 ⟨rfl, hb_w2⟩
    have T2 := T1.on hb_w2
    clear p0 p1 m0 m1 m2 m3 m4 z
    have p0 := T2.pos.c0
    have p1 := T2.pos.c1
    have m0 := T2.mv.c0
    have m1 := T2.mv.c1
    have m2 := T2.mv.c2
    have m3 := T2.mv.c3
    have m4 := T2.mv.c4
    have z := T2.mv.z
    go_wp2
    obtain ⟨hg, hb⟩ := T2.ret 0 0 0 0 false
    exact ret_mv (r := R.no) (g := w.heap.size + 1) rfl rfl rfl rfl hg ⟨rfl, hb⟩

set_option maxHeartbeats 8000000 in
theorem btail5_any (a : Option Addr) (n c' : Nat) (ls : List ByteArray) (l c : Int) (nn : Int) (big : Bool) (w : World) (h : Ss w a n c' ls) (hs : ∀ s ∈ ls, s.size ≤ 140737488355328) (htz : tz ls ≤ 900000) (hnn : nn ≤ 9223372036854775807) :
    Calls Try.prog 26 #[.slice a n c', .agg #[.int .i64 l, .int .i64 c], .int .i64 nn, .bool big] w fun e w' => e = .returned (btailR ls l c nn big).v ∧ Below w.heap.size w w' := by
  have hlen := h.length
  have hn := h.le63
  by_cases hpk : Plc ls l c ∧ 1 ≤ nn
  · obtain ⟨hp, hk⟩ := hpk
    have hp0 := hp
    obtain ⟨i, k, rfl, rfl, hi, hkk⟩ := hp0.nat
    obtain ⟨m, rfl⟩ : ∃ m : Nat, nn = m := ⟨nn.toNat, by omega⟩
    have hm1 : 1 ≤ m := by omega
    have hr : btailR ls i k m big = mvd (nthV (bef (eds big ls) (i, k)).reverse m) 1 := ifm_yes hp hm1
    rw [hr]
    obtain ⟨q, hq⟩ : ∃ q : P2 × Bool, q = nthV (bef (eds big ls) (i, k)).reverse m := ⟨_, rfl⟩
    rw [← hq]
    obtain ⟨r, hrr⟩ : ∃ r, r = mvd q 1 := ⟨_, rfl⟩
    rw [← hrr]
    have HQ := Lib.hid hq
    have HR := Lib.hid hrr
    clear hq hrr
    obtain ⟨X, hX⟩ : ∃ X, X = ((w.alloc (.cells #[.int .i64 (i : Int), .int .i64 (k : Int)] 35)).alloc (.cells #[.int .i64 0, .int .i64 0, .int .i64 0, .bool false, .int .i64 0] 40)) := ⟨_, rfl⟩
    have hT : Two w X i k := by rw [hX]; exact Two.new w i k
    have HX := Lib.hid hX
    have h1 := may_any a n c' ls i k m X (SrcV.below h hT.below)
    rw [decide_eq_true (p := Plc ls (i : Int) (k : Int) ∧ 1 ≤ (m : Int)) ⟨hp, hk⟩] at h1
    have hH := Lib.hid h
    have p0 := hT.pos.c0
    have p1 := hT.pos.c1
    have m0 := hT.mv.c0
    have m1 := hT.mv.c1
    have m2 := hT.mv.c2
    have m3 := hT.mv.c3
    have m4 := hT.mv.c4
    have z := hT.mv.z
    clear hr hX hp hk hkk h
    go_enter Try.func26, Try.ntmps26
    go_wp2_with fail
    rw [← HX.out]
    refine h1.mono ?_
    rintro e w1 ⟨rfl, hb_w1⟩
    have T1 := hT.on hb_w1
    clear p0 p1 m0 m1 m2 m3 m4 z h1 HX hT hb_w1
    have p0 := T1.pos.c0
    have p1 := T1.pos.c1
    have m0 := T1.mv.c0
    have m1 := T1.mv.c1
    have m2 := T1.mv.c2
    have m3 := T1.mv.c3
    have m4 := T1.mv.c4
    have z := T1.mv.z
    have HTZ := Lib.hid htz
    have HS1 := Lib.hid (SrcV.below hH.out T1.below)
    clear htz
    go_wp2_with fail
    have F_p0 := fun (C : World → Prop) (hC : Grows w1 C) (y : In C) => hC.cell p0 y
    have F_p1 := fun (C : World → Prop) (hC : Grows w1 C) (y : In C) => hC.cell p1 y
    clear p0 p1 m0 m1 m2 m3 m4 z
    refine wp_region_seg [0, 1, 3, 5] [(2, 1), (4, 1), (6, 0), (7, 0), (8, 0), (9, 3), (10, 2)] (by kernel_rfl) (by kernel_rfl) 27 rfl (by kernel_rfl) ?_
    simp only [List.map_cons, List.map_nil, opOf_succ, opOf_zero]
    apply Exists.intro
    refine ⟨fun C hC => ?_, ?_⟩
    · haveI hI := hC.one
      have f_p0 := F_p0 C hC
      have f_p1 := F_p1 C hC
      repeat (go_big_quiet_step (fail))
      exact wpQuiet_nil rfl
    clear F_p0 F_p1
    refine wpPath_call (f := 14) (args := #[.slice a n c', .bool big]) rfl rfl (fun W => by simp only [opOf_succ, opOf_zero]; go_simp) ?_
    intro A1 hb_A1
    refine (ends5_n a n c' ls big A1 (SrcV.below HS1.out hb_A1) hs HTZ.out).mono ?_
    rintro e A2 ⟨b1, N1, c1, rfl, hps1, hb_A2⟩
    refine ⟨_, rfl, hb_A2, ?_⟩
    simp only [opOf_succ, opOf_zero, Act.put, List.setIfInBounds_toArray, List.set_cons_zero, List.set_cons_succ]
    have hl2 : N1 ≤ 2000000 := by rw [← hps1.length]; exact Nat.le_trans (mks_tz _ _ _) (Nat.le_trans HTZ.out (by omega))
    refine wpPath_call (f := 45) (args := #[.slice b1 N1 c1, .agg #[.int .i64 i, .int .i64 k]]) rfl rfl (fun W => by simp only [opOf_succ, opOf_zero]; go_simp) ?_
    intro A3 hb_A3
    refine (ahead5_n b1 _ c1 (eds big ls) (i, k) A3 (hps1.below hb_A3) hl2).mono ?_
    rintro e A4 ⟨b2, N2, c2, rfl, hps, hb_A4⟩
    refine ⟨_, rfl, hb_A4, ?_⟩
    simp only [opOf_succ, opOf_zero, Act.put, List.setIfInBounds_toArray, List.set_cons_zero, List.set_cons_succ]
    have T4 := (T1.on (below_on hb_A1 hb_A2)).on (below_on hb_A3 hb_A4)
    have hnth : ∀ V, Below A4.heap.size A4 V → Calls Try.prog 41 #[.slice b2 N2 c2, .int .i64 m, .int .i64 1] V fun e w' => e = .returned (.tuple #[.agg #[.int .i64 r.l, .int .i64 r.c, .int .i64 r.way, .bool r.j, .int .i64 r.want], .bool r.ok]) ∧ Below V.heap.size V w' := fun V hV => by
      have := nth5_any b2 _ c2 ((bef (eds big ls) (i, k)).reverse) m 1 V (hps.below hV) hm1 (by omega)
      rw [← HQ.out, ← HR.out] at this
      exact this
    refine wpPath_on (r := [(9, 3), (10, 2)]) [6, 7, 8] 27 rfl (by kernel_rfl) ?_
    simp only [List.map_cons, List.map_nil, opOf_succ, opOf_zero]
    apply Exists.intro
    refine ⟨fun C hC => ?_, ?_⟩
    · haveI hI := hC.one
      repeat (go_big_quiet_step (first | (go_at_call 41; exact Calls.in_of hC (hnth _ (hC.below _ (In.isIn _))))))
      exact wpQuiet_nil rfl
    refine wpPath_store rfl fun u1 hb_u1 => ?_
    have TU := T4.on hb_u1
    refine ⟨_, rfl, run_store_mv TU.mv, ?_⟩
    simp only [opOf_succ, opOf_zero, Act.put, List.setIfInBounds_toArray, List.set_cons_zero, List.set_cons_succ]
    obtain ⟨hg5, hb5⟩ := TU.ret r.l r.c r.way r.want r.j
    refine wpPath_free (v := .bool r.ok) rfl rfl (fun _ => rfl) ?_
    simp only [opOf_succ, opOf_zero, Act.put, List.setIfInBounds_toArray, List.set_cons_zero, List.set_cons_succ]
    refine wpPath_end fun w5 hb_w5 => ?_
    have hg6 := hg5.below hb_w5 hg5.lt
    have hb6 := below_on hb5 hb_w5
    clear hg5 hb5 hb_w5
    go_wp2
    exact ret_mv (r := r) (g := w.heap.size + 1) rfl rfl rfl rfl hg6 ⟨rfl, hb6⟩
  · have hr : btailR ls l c nn big = R.no := ifm_no hpk
    rw [hr]
    obtain ⟨X, hX⟩ : ∃ X, X = ((w.alloc (.cells #[.int .i64 l, .int .i64 c] 35)).alloc (.cells #[.int .i64 0, .int .i64 0, .int .i64 0, .bool false, .int .i64 0] 40)) := ⟨_, rfl⟩
    have hT : Two w X l c := by rw [hX]; exact Two.new w l c
    have HX := Lib.hid hX
    have h1 := may_any a n c' ls l c nn X (SrcV.below h hT.below)
    rw [decide_eq_false hpk] at h1
    have p0 := hT.pos.c0
    have p1 := hT.pos.c1
    have m0 := hT.mv.c0
    have m1 := hT.mv.c1
    have m2 := hT.mv.c2
    have m3 := hT.mv.c3
    have m4 := hT.mv.c4
    have z := hT.mv.z
    clear hr hX hpk h
    go_enter Try.func26, Try.ntmps26
    go_wp2_with fail
    rw [← HX.out]
    refine h1.mono ?_
    rintro e w1 ⟨rfl, hb_w1⟩
    have T1 := hT.on hb_w1
    clear p0 p1 m0 m1 m2 m3 m4 z h1
    have p0 := T1.pos.c0
    have p1 := T1.pos.c1
    have m0 := T1.mv.c0
    have m1 := T1.mv.c1
    have m2 := T1.mv.c2
    have m3 := T1.mv.c3
    have m4 := T1.mv.c4
    have z := T1.mv.z
    go_wp2_with fail
    refine (none_any' _).mono ?_
    rintro e w2 ⟨rfl, hb_w2⟩
    have T2 := T1.on hb_w2
    clear p0 p1 m0 m1 m2 m3 m4 z
    have p0 := T2.pos.c0
    have p1 := T2.pos.c1
    have m0 := T2.mv.c0
    have m1 := T2.mv.c1
    have m2 := T2.mv.c2
    have m3 := T2.mv.c3
    have m4 := T2.mv.c4
    have z := T2.mv.z
    go_wp2
    obtain ⟨hg, hb⟩ := T2.ret 0 0 0 0 false
    exact ret_mv (r := R.no) (g := w.heap.size + 1) rfl rfl rfl rfl hg ⟨rfl, hb⟩

set_option maxHeartbeats 8000000 in
theorem tail5_any (a : Option Addr) (n c' : Nat) (ls : List ByteArray) (l c : Int) (nn : Int) (big here : Bool) (w : World) (h : Ss w a n c' ls) (hs : ∀ s ∈ ls, s.size ≤ 140737488355328) (htz : tz ls ≤ 900000) (hnn : nn ≤ 9223372036854775807) :
    Calls Try.prog 24 #[.slice a n c', .agg #[.int .i64 l, .int .i64 c], .int .i64 nn, .bool big, .bool here] w fun e w' => e = .returned (tailR ls l c nn big here).v ∧ Below w.heap.size w w' := by
  have hlen := h.length
  have hn := h.le63
  by_cases hpk : Plc ls l c ∧ 1 ≤ nn
  · obtain ⟨hp, hk⟩ := hpk
    have hp0 := hp
    obtain ⟨i, k, rfl, rfl, hi, hkk⟩ := hp0.nat
    obtain ⟨m, rfl⟩ : ∃ m : Nat, nn = m := ⟨nn.toNat, by omega⟩
    have hm1 : 1 ≤ m := by omega
    have hr : tailR ls i k m big here = mvd (nthV (if here = true then atf (eds big ls) (i, k) else aft (eds big ls) (i, k)) m) 1 := ifm_yes hp hm1
    rw [hr]
    obtain ⟨q, hq⟩ : ∃ q : P2 × Bool, q = nthV (if here = true then atf (eds big ls) (i, k) else aft (eds big ls) (i, k)) m := ⟨_, rfl⟩
    rw [← hq]
    obtain ⟨r, hrr⟩ : ∃ r, r = mvd q 1 := ⟨_, rfl⟩
    rw [← hrr]
    have HQ := Lib.hid hq
    have HR := Lib.hid hrr
    clear hq hrr
    obtain ⟨X, hX⟩ : ∃ X, X = ((w.alloc (.cells #[.int .i64 (i : Int), .int .i64 (k : Int)] 35)).alloc (.cells #[.int .i64 0, .int .i64 0, .int .i64 0, .bool false, .int .i64 0] 40)) := ⟨_, rfl⟩
    have hT : Two w X i k := by rw [hX]; exact Two.new w i k
    have HX := Lib.hid hX
    have h1 := may_any a n c' ls i k m X (SrcV.below h hT.below)
    rw [decide_eq_true (p := Plc ls (i : Int) (k : Int) ∧ 1 ≤ (m : Int)) ⟨hp, hk⟩] at h1
    have hH := Lib.hid h
    have p0 := hT.pos.c0
    have p1 := hT.pos.c1
    have m0 := hT.mv.c0
    have m1 := hT.mv.c1
    have m2 := hT.mv.c2
    have m3 := hT.mv.c3
    have m4 := hT.mv.c4
    have z := hT.mv.z
    clear hr hX hp hk hkk h
    go_enter Try.func24, Try.ntmps24
    go_wp2_with fail
    rw [← HX.out]
    refine h1.mono ?_
    rintro e w1 ⟨rfl, hb_w1⟩
    have T1 := hT.on hb_w1
    clear p0 p1 m0 m1 m2 m3 m4 z h1 HX hT hb_w1
    have p0 := T1.pos.c0
    have p1 := T1.pos.c1
    have m0 := T1.mv.c0
    have m1 := T1.mv.c1
    have m2 := T1.mv.c2
    have m3 := T1.mv.c3
    have m4 := T1.mv.c4
    have z := T1.mv.z
    have HTZ := Lib.hid htz
    have HS1 := Lib.hid (SrcV.below hH.out T1.below)
    clear htz
    have hql : q = nthV ((eds big ls).filter (bhd here (i, k))) m := by
      rw [HQ.out]
      cases here
      · rw [bhd_aft]; rfl
      · rw [bhd_atf]; rfl
    have HQ := Lib.hid hql
    clear hql
    go_wp2_with fail
    have F_p0 := fun (C : World → Prop) (hC : Grows w1 C) (y : In C) => hC.cell p0 y
    have F_p1 := fun (C : World → Prop) (hC : Grows w1 C) (y : In C) => hC.cell p1 y
    clear p0 p1 m0 m1 m2 m3 m4 z
    refine wp_region_seg [0, 1, 3, 4, 6] [(2, 1), (5, 1), (7, 0), (8, 0), (9, 0), (10, 3), (11, 2)] (by kernel_rfl) (by kernel_rfl) 30 rfl (by kernel_rfl) ?_
    simp only [List.map_cons, List.map_nil, opOf_succ, opOf_zero]
    apply Exists.intro
    refine ⟨fun C hC => ?_, ?_⟩
    · haveI hI := hC.one
      have f_p0 := F_p0 C hC
      have f_p1 := F_p1 C hC
      repeat (go_big_quiet_step (fail))
      exact wpQuiet_nil rfl
    clear F_p0 F_p1
    refine wpPath_call (f := 14) (args := #[.slice a n c', .bool big]) rfl rfl (fun W => by simp only [opOf_succ, opOf_zero]; go_simp) ?_
    intro A1 hb_A1
    refine (ends5_n a n c' ls big A1 (SrcV.below HS1.out hb_A1) hs HTZ.out).mono ?_
    rintro e A2 ⟨b1, N1, c1, rfl, hps1, hb_A2⟩
    refine ⟨_, rfl, hb_A2, ?_⟩
    simp only [opOf_succ, opOf_zero, Act.put, List.setIfInBounds_toArray, List.set_cons_zero, List.set_cons_succ]
    have hl2 : N1 ≤ 2000000 := by rw [← hps1.length]; exact Nat.le_trans (mks_tz _ _ _) (Nat.le_trans HTZ.out (by omega))
    refine wpPath_call (f := 40) (args := #[.slice b1 N1 c1, .agg #[.int .i64 i, .int .i64 k], .bool here]) rfl rfl (fun W => by simp only [opOf_succ, opOf_zero]; go_simp) ?_
    intro A3 hb_A3
    refine (behind5_n b1 _ c1 (eds big ls) (i, k) here A3 (hps1.below hb_A3) hl2).mono ?_
    rintro e A4 ⟨b2, N2, c2, rfl, hps, hb_A4⟩
    refine ⟨_, rfl, hb_A4, ?_⟩
    simp only [opOf_succ, opOf_zero, Act.put, List.setIfInBounds_toArray, List.set_cons_zero, List.set_cons_succ]
    have T4 := (T1.on (below_on hb_A1 hb_A2)).on (below_on hb_A3 hb_A4)
    have hnth : ∀ V, Below A4.heap.size A4 V → Calls Try.prog 41 #[.slice b2 N2 c2, .int .i64 m, .int .i64 1] V fun e w' => e = .returned (.tuple #[.agg #[.int .i64 r.l, .int .i64 r.c, .int .i64 r.way, .bool r.j, .int .i64 r.want], .bool r.ok]) ∧ Below V.heap.size V w' := fun V hV => by
      have := nth5_any b2 _ c2 ((eds big ls).filter (bhd here (i, k))) m 1 V (hps.below hV) hm1 (by omega)
      rw [← HQ.out, ← HR.out] at this
      exact this
    refine wpPath_on (r := [(10, 3), (11, 2)]) [7, 8, 9] 30 rfl (by kernel_rfl) ?_
    simp only [List.map_cons, List.map_nil, opOf_succ, opOf_zero]
    apply Exists.intro
    refine ⟨fun C hC => ?_, ?_⟩
    · haveI hI := hC.one
      repeat (go_big_quiet_step (first | (go_at_call 41; exact Calls.in_of hC (hnth _ (hC.below _ (In.isIn _))))))
      exact wpQuiet_nil rfl
    refine wpPath_store rfl fun u1 hb_u1 => ?_
    have TU := T4.on hb_u1
    refine ⟨_, rfl, run_store_mv TU.mv, ?_⟩
    simp only [opOf_succ, opOf_zero, Act.put, List.setIfInBounds_toArray, List.set_cons_zero, List.set_cons_succ]
    obtain ⟨hg5, hb5⟩ := TU.ret r.l r.c r.way r.want r.j
    refine wpPath_free (v := .bool r.ok) rfl rfl (fun _ => rfl) ?_
    simp only [opOf_succ, opOf_zero, Act.put, List.setIfInBounds_toArray, List.set_cons_zero, List.set_cons_succ]
    refine wpPath_end fun w5 hb_w5 => ?_
    have hg6 := hg5.below hb_w5 hg5.lt
    have hb6 := below_on hb5 hb_w5
    clear hg5 hb5 hb_w5
    go_wp2
    exact ret_mv (r := r) (g := w.heap.size + 1) rfl rfl rfl rfl hg6 ⟨rfl, hb6⟩
  · have hr : tailR ls l c nn big here = R.no := ifm_no hpk
    rw [hr]
    obtain ⟨X, hX⟩ : ∃ X, X = ((w.alloc (.cells #[.int .i64 l, .int .i64 c] 35)).alloc (.cells #[.int .i64 0, .int .i64 0, .int .i64 0, .bool false, .int .i64 0] 40)) := ⟨_, rfl⟩
    have hT : Two w X l c := by rw [hX]; exact Two.new w l c
    have HX := Lib.hid hX
    have h1 := may_any a n c' ls l c nn X (SrcV.below h hT.below)
    rw [decide_eq_false hpk] at h1
    have p0 := hT.pos.c0
    have p1 := hT.pos.c1
    have m0 := hT.mv.c0
    have m1 := hT.mv.c1
    have m2 := hT.mv.c2
    have m3 := hT.mv.c3
    have m4 := hT.mv.c4
    have z := hT.mv.z
    clear hr hX hpk h
    go_enter Try.func24, Try.ntmps24
    go_wp2_with fail
    rw [← HX.out]
    refine h1.mono ?_
    rintro e w1 ⟨rfl, hb_w1⟩
    have T1 := hT.on hb_w1
    clear p0 p1 m0 m1 m2 m3 m4 z h1
    have p0 := T1.pos.c0
    have p1 := T1.pos.c1
    have m0 := T1.mv.c0
    have m1 := T1.mv.c1
    have m2 := T1.mv.c2
    have m3 := T1.mv.c3
    have m4 := T1.mv.c4
    have z := T1.mv.z
    go_wp2_with fail
    refine (none_any' _).mono ?_
    rintro e w2 ⟨rfl, hb_w2⟩
    have T2 := T1.on hb_w2
    clear p0 p1 m0 m1 m2 m3 m4 z
    have p0 := T2.pos.c0
    have p1 := T2.pos.c1
    have m0 := T2.mv.c0
    have m1 := T2.mv.c1
    have m2 := T2.mv.c2
    have m3 := T2.mv.c3
    have m4 := T2.mv.c4
    have z := T2.mv.z
    go_wp2
    obtain ⟨hg, hb⟩ := T2.ret 0 0 0 0 false
    exact ret_mv (r := R.no) (g := w.heap.size + 1) rfl rfl rfl rfl hg ⟨rfl, hb⟩

end Go.Proofs.Ytdgckgfbdplnpaa.Wd
