/-
  Package words: Back, BackTail.
-/
import Derived.Test.YtdgckgfbdplnpaaZo
import Derived.Test.YtdgckgfbdplnpaaZe
import Derived.Test.YtdgckgfbdplnpaaTw
import Derived.Test.YtdgckgfbdplnpaaMp
set_option linter.unusedVariables false
set_option linter.unusedSimpArgs false
set_option maxRecDepth 100000
namespace Go.Proofs.Ytdgckgfbdplnpaa.Wd
open Go Go.RowKit Go.Proofs.Ytdgckgfbdplnpaa.Vk Go.Proofs.Ytdgckgfbdplnpaa.Str Go.Proofs.Ytdgckgfbdplnpaa.Ln Go.Proofs.Ytdgckgfbdplnpaa.Cl Go.Proofs.Ytdgckgfbdplnpaa.Mv
attribute [local go_sem] Oper.semAt_some

set_option maxHeartbeats 8000000 in
theorem back_any (a : Option Addr) (n c' : Nat) (ls : List ByteArray) (l c : Int) (nn : Int) (big : Bool) (w : World) (h : Ss w a n c' ls) (hs : ∀ s ∈ ls, s.size ≤ 140737488355328) (htz : tz ls ≤ 900000) (hnn : nn ≤ 9223372036854775807) :
    Calls Try.prog 21 #[.slice a n c', .agg #[.int .i64 l, .int .i64 c], .int .i64 nn, .bool big] w fun e w' => e = .returned (backR ls l c nn big).v ∧ Below w.heap.size w w' := by
  have hlen := h.length
  have hn := h.le63
  by_cases hp : Plc ls l c
  · by_cases hk : 1 ≤ nn
    · have hp0 := hp
      obtain ⟨i, k, rfl, rfl, hi, hkk⟩ := hp0.nat
      obtain ⟨m, rfl⟩ : ∃ m : Nat, nn = m := ⟨nn.toNat, by omega⟩
      have hm1 : 1 ≤ m := by omega
      have hr : backR ls i k m big = mvd (nthV (bef (sts big ls) (i, k)).reverse m) 0 := ifm_yes hp hm1
      rw [hr]
      obtain ⟨q, hq⟩ : ∃ q : P2 × Bool, q = nthV (bef (sts big ls) (i, k)).reverse m := ⟨_, rfl⟩
      rw [← hq]
      obtain ⟨r, hrr⟩ : ∃ r, r = mvd q 0 := ⟨_, rfl⟩
      rw [← hrr]
      have HQ := Lib.hid hq
      have HR := Lib.hid hrr
      clear hq hrr
      obtain ⟨X, hX⟩ : ∃ X, X = ((w.alloc (.cells #[.int .i64 (i : Int), .int .i64 (k : Int)] 35)).alloc (.cells #[.int .i64 0, .int .i64 0, .int .i64 0, .bool false, .int .i64 0] 40)) := ⟨_, rfl⟩
      have hT : Two w X i k := by rw [hX]; exact Two.new w i k
      have HX := Lib.hid hX
      have h1 := inside_any a n c' ls i k X (SrcV.below h hT.below) hs
      rw [decide_eq_true hp] at h1
      have hH := Lib.hid h
      have dn : decide ((m : Int) < 1) = false := decide_eq_false (by omega)
      have dn2 : decide (m < 1) = false := decide_eq_false (by omega)
      have p0 := hT.pos.c0
      have p1 := hT.pos.c1
      have m0 := hT.mv.c0
      have m1 := hT.mv.c1
      have m2 := hT.mv.c2
      have m3 := hT.mv.c3
      have m4 := hT.mv.c4
      have z := hT.mv.z
      clear hr hX hp hk hkk h
      go_enter Try.func21, Try.ntmps21
      go_wp2_with fail
      rw [← HX.out]
      refine h1.mono ?_
      rintro e w1 ⟨rfl, hb_w1⟩
      have T1 := hT.on hb_w1
      clear p0 p1 m0 m1 m2 m3 m4 z h1 HX hT hb_w1
      have p0 := T1.pos.c0
      have p1 := T1.pos.c1
      have m0 := T1.mv.c0
      have m1 := T1.mv.c1
      have m2 := T1.mv.c2
      have m3 := T1.mv.c3
      have m4 := T1.mv.c4
      have z := T1.mv.z
      have HTZ := Lib.hid htz
      have HS1 := Lib.hid (SrcV.below hH.out T1.below)
      clear htz
      go_wp2_with fail
      have F_p0 := fun (C : World → Prop) (hC : Grows w1 C) (y : In C) => hC.cell p0 y
      have F_p1 := fun (C : World → Prop) (hC : Grows w1 C) (y : In C) => hC.cell p1 y
      clear p0 p1 m0 m1 m2 m3 m4 z
      refine wp_region_fork [0, 1, 3, 4] 2 10 [(5, 0), (6, 0), (7, 0), (8, 0), (9, 2), (10, 1), (11, 3), (12, 2)] [(2, 1), (5, 0), (6, 0), (7, 0), (8, 0), (9, 2), (11, 3), (12, 2)] (by kernel_rfl) (by kernel_rfl) 36 rfl (by kernel_rfl) ?_
      simp only [List.map_cons, List.map_nil, opOf_succ, opOf_zero]
      apply Exists.intro
      refine ⟨fun C hC => ?_, fun W1 hW1 => ?_, fun W1 hW1 => ?_⟩
      · haveI hI := hC.one
        have f_p0 := F_p0 C hC
        have f_p1 := F_p1 C hC
        repeat (go_big_quiet_step (fail))
        exact wpQuiet_nil rfl
      · refine fork_call (f := 28) (args := #[.slice a n c', .bool big]) rfl rfl (by simp only [opOf_succ, opOf_zero]; go_simp) ?_
        refine (starts_tells a n c' ls big W1 (SrcV.below HS1.out hW1) hs).mono ?_
        rintro e VV ⟨v, rfl, ht, hbv⟩
        refine ⟨_, rfl, hbv, ?_⟩
        simp only [opOf_succ, opOf_zero, Act.put, List.setIfInBounds_toArray, List.set_cons_zero, List.set_cons_succ]
        have TV := (T1.on hW1).on hbv
        have hnb : ∀ W, Below VV.heap.size VV W → Calls Try.prog 44 #[v, .agg #[.int .i64 i, .int .i64 k], .int .i64 (min (m : Int) 1073741824)] W fun e w' => e = .returned (.tuple #[.agg #[.int .i64 q.1.1, .int .i64 q.1.2], .bool q.2]) ∧ Below W.heap.size W w' := fun W hW => by
          have := nthBefore_any v (i, k) (min m 1073741824) W (ht.later hW) (mks_sorted _) (Nat.le_trans (mks_tz _ _ _) (Nat.le_trans HTZ.out (by omega))) (by omega) (by omega)
          rw [nthV_cap _ (by
            have h1 := List.length_filter_le (fun x => lp x (i, k)) (sts big ls)
            have h2 : (sts big ls).length ≤ tz ls := mks_tz _ _ _
            have h3 := HTZ.out
            rw [List.length_reverse]
            unfold bef
            omega), ← HQ.out] at this
          rw [show (min (m : Int) 1073741824) = ((min m 1073741824 : Nat) : Int) by omega]
          exact this
        clear F_p0 F_p1
        refine wpPath_on (r := [(9, 2), (10, 1), (11, 3), (12, 2)]) [5, 6, 7, 8] 36 rfl (by kernel_rfl) ?_
        simp only [List.map_cons, List.map_nil, opOf_succ, opOf_zero]
        apply Exists.intro
        refine ⟨fun C hC => ?_, ?_⟩
        · haveI hI := hC.one
          repeat (go_big_quiet_step (first | (go_at_call 35; exact Calls.in_of_same hC (counted_any _ _)) | (go_at_call 44; exact Calls.in_of hC (hnb _ (hC.below _ (In.isIn _))))))
          exact wpQuiet_nil rfl
        refine wpPath_free (v := .bool q.2) rfl rfl (fun W => run_extract _ _ W) ?_
        simp only [opOf_succ, opOf_zero, Act.put, List.setIfInBounds_toArray, List.set_cons_zero, List.set_cons_succ]
        refine wpPath_make rfl fun w0 hb_w0 => ⟨_, _, rfl, run_pos w0, (Below.refl _ w0).alloc (Nat.le_refl _) _, ?_⟩
        simp only [opOf_succ, opOf_zero, Act.put, List.setIfInBounds_toArray, List.set_cons_zero, List.set_cons_succ]
        have TW := TV.on hb_w0
        have hg0 : w.heap.size + 2 ≤ w0.heap.size := TW.size
        have TA := TW.on ((Below.refl _ w0).alloc (Nat.le_refl _) (.cells #[.int .i64 0, .int .i64 0] 35))
        have hV := PosAt.new w0 0 0
        refine wpPath_store rfl fun u1 hb_u1 => ?_
        have hV2 := hV.below hb_u1 hV.lt
        refine ⟨_, rfl, run_store_pos hV2, ?_⟩
        simp only [opOf_succ, opOf_zero, Act.put, List.setIfInBounds_toArray, List.set_cons_zero, List.set_cons_succ]
        have hV3 : PosAt _ _ q.1.1 q.1.2 := So.set2 hV2
        have T4 := (TA.on hb_u1).setp hg0 q.1.1 q.1.2
        refine wpPath_free (v := .bool q.2) rfl rfl (fun _ => rfl) ?_
        simp only [opOf_succ, opOf_zero, Act.put, List.setIfInBounds_toArray, List.set_cons_zero, List.set_cons_succ]
        refine wpPath_end fun w5 hb_w5 => ?_
        have T5 := T4.on hb_w5
        have vv := hV3.below hb_w5 hV3.lt
        clear T4 hV3 hb_w5
        have p0 := T5.pos.c0
        have p1 := T5.pos.c1
        have m0 := T5.mv.c0
        have m1 := T5.mv.c1
        have m2 := T5.mv.c2
        have m3 := T5.mv.c3
        have m4 := T5.mv.c4
        have z := T5.mv.z
        have v0 := vv.c0
        have v1 := vv.c1
        have hmv := fun W => moved_any q.1 0 q.2 W
        rw [show mvd (q.1, q.2) 0 = r from HR.out.symm] at hmv
        go_wp2_with fail
        refine (hmv _).mono ?_
        rintro e w9 ⟨rfl, hb_w9⟩
        have T9 := T5.on hb_w9
        clear p0 p1 m0 m1 m2 m3 m4 z hmv v0 v1 vv
        have p0 := T9.pos.c0
        have p1 := T9.pos.c1
        have m0 := T9.mv.c0
        have m1 := T9.mv.c1
        have m2 := T9.mv.c2
        have m3 := T9.mv.c3
        have m4 := T9.mv.c4
        have z := T9.mv.z
        go_wp2
        obtain ⟨hg, hb⟩ := T9.ret r.l r.c r.way r.want r.j
        exact ret_mv (r := r) (g := w.heap.size + 1) rfl rfl rfl rfl hg ⟨rfl, hb⟩
      · refine fork_make rfl rfl (run_pos W1) ⟨(Below.refl _ W1).alloc (Nat.le_refl _) _, ?_⟩
        simp only [opOf_succ, opOf_zero, Act.put, List.setIfInBounds_toArray, List.set_cons_zero, List.set_cons_succ]
        have TW := T1.on hW1
        have hg0 : w.heap.size + 2 ≤ W1.heap.size := TW.size
        have hbA := below_on hW1 ((Below.refl _ W1).alloc (Nat.le_refl _) (.cells #[.int .i64 0, .int .i64 0] 35))
        have TA := TW.on ((Below.refl _ W1).alloc (Nat.le_refl _) (.cells #[.int .i64 0, .int .i64 0] 35))
        have hV0 := PosAt.new W1 0 0
        obtain ⟨B0, hB0⟩ : ∃ B, B = W1.heap.size := ⟨_, rfl⟩
        rw [← hB0] at hV0 hg0 ⊢
        clear hB0
        refine wpPath_call (f := 28) (args := #[.slice a n c', .bool big]) rfl rfl (fun W => by simp only [opOf_succ, opOf_zero]; go_simp) ?_
        intro W2 hb_W2
        refine (starts_tells a n c' ls big W2 (SrcV.below HS1.out (below_on hbA hb_W2)) hs).mono ?_
        rintro e VV ⟨v, rfl, ht, hbv⟩
        refine ⟨_, rfl, hbv, ?_⟩
        simp only [opOf_succ, opOf_zero, Act.put, List.setIfInBounds_toArray, List.set_cons_zero, List.set_cons_succ]
        have TV := (TA.on hb_W2).on hbv
        have hV1 := hV0.below (below_on hb_W2 hbv) hV0.lt
        have hnb : ∀ W, Below VV.heap.size VV W → Calls Try.prog 44 #[v, .agg #[.int .i64 i, .int .i64 k], .int .i64 (min (m : Int) 1073741824)] W fun e w' => e = .returned (.tuple #[.agg #[.int .i64 q.1.1, .int .i64 q.1.2], .bool q.2]) ∧ Below W.heap.size W w' := fun W hW => by
          have := nthBefore_any v (i, k) (min m 1073741824) W (ht.later hW) (mks_sorted _) (Nat.le_trans (mks_tz _ _ _) (Nat.le_trans HTZ.out (by omega))) (by omega) (by omega)
          rw [nthV_cap _ (by
            have h1 := List.length_filter_le (fun x => lp x (i, k)) (sts big ls)
            have h2 : (sts big ls).length ≤ tz ls := mks_tz _ _ _
            have h3 := HTZ.out
            rw [List.length_reverse]
            unfold bef
            omega), ← HQ.out] at this
          rw [show (min (m : Int) 1073741824) = ((min m 1073741824 : Nat) : Int) by omega]
          exact this
        clear F_p0 F_p1
        refine wpPath_on (r := [(9, 2), (11, 3), (12, 2)]) [5, 6, 7, 8] 36 rfl (by kernel_rfl) ?_
        simp only [List.map_cons, List.map_nil, opOf_succ, opOf_zero]
        apply Exists.intro
        refine ⟨fun C hC => ?_, ?_⟩
        · haveI hI := hC.one
          repeat (go_big_quiet_step (first | (go_at_call 35; exact Calls.in_of_same hC (counted_any _ _)) | (go_at_call 44; exact Calls.in_of hC (hnb _ (hC.below _ (In.isIn _))))))
          exact wpQuiet_nil rfl
        have hV := hV1
        refine wpPath_free (v := .bool q.2) rfl rfl (fun W => run_extract _ _ W) ?_
        simp only [opOf_succ, opOf_zero, Act.put, List.setIfInBounds_toArray, List.set_cons_zero, List.set_cons_succ]
        refine wpPath_store rfl fun u1 hb_u1 => ?_
        have hV2 := hV.below hb_u1 hV.lt
        refine ⟨_, rfl, run_store_pos hV2, ?_⟩
        simp only [opOf_succ, opOf_zero, Act.put, List.setIfInBounds_toArray, List.set_cons_zero, List.set_cons_succ]
        have hV3 : PosAt _ _ q.1.1 q.1.2 := So.set2 hV2
        have T4 := (TV.on hb_u1).setp hg0 q.1.1 q.1.2
        refine wpPath_free (v := .bool q.2) rfl rfl (fun _ => rfl) ?_
        simp only [opOf_succ, opOf_zero, Act.put, List.setIfInBounds_toArray, List.set_cons_zero, List.set_cons_succ]
        refine wpPath_end fun w5 hb_w5 => ?_
        have T5 := T4.on hb_w5
        have vv := hV3.below hb_w5 hV3.lt
        clear T4 hV3 hb_w5
        have p0 := T5.pos.c0
        have p1 := T5.pos.c1
        have m0 := T5.mv.c0
        have m1 := T5.mv.c1
        have m2 := T5.mv.c2
        have m3 := T5.mv.c3
        have m4 := T5.mv.c4
        have z := T5.mv.z
        have v0 := vv.c0
        have v1 := vv.c1
        have hmv := fun W => moved_any q.1 0 q.2 W
        rw [show mvd (q.1, q.2) 0 = r from HR.out.symm] at hmv
        go_wp2_with fail
        refine (hmv _).mono ?_
        rintro e w9 ⟨rfl, hb_w9⟩
        have T9 := T5.on hb_w9
        clear p0 p1 m0 m1 m2 m3 m4 z hmv v0 v1 vv
        have p0 := T9.pos.c0
        have p1 := T9.pos.c1
        have m0 := T9.mv.c0
        have m1 := T9.mv.c1
        have m2 := T9.mv.c2
        have m3 := T9.mv.c3
        have m4 := T9.mv.c4
        have z := T9.mv.z
        go_wp2
        obtain ⟨hg, hb⟩ := T9.ret r.l r.c r.way r.want r.j
        exact ret_mv (r := r) (g := w.heap.size + 1) rfl rfl rfl rfl hg ⟨rfl, hb⟩
    · have hr : backR ls l c nn big = R.no := ifm_no fun hh => hk hh.2
      rw [hr]
      obtain ⟨X, hX⟩ : ∃ X, X = ((w.alloc (.cells #[.int .i64 l, .int .i64 c] 35)).alloc (.cells #[.int .i64 0, .int .i64 0, .int .i64 0, .bool false, .int .i64 0] 40)) := ⟨_, rfl⟩
      have hT : Two w X l c := by rw [hX]; exact Two.new w l c
      have HX := Lib.hid hX
      have h1 := inside_any a n c' ls l c X (SrcV.below h hT.below) hs
      rw [decide_eq_true hp] at h1
      have dn : decide (nn < 1) = true := decide_eq_true (by omega)
      have p0 := hT.pos.c0
      have p1 := hT.pos.c1
      have m0 := hT.mv.c0
      have m1 := hT.mv.c1
      have m2 := hT.mv.c2
      have m3 := hT.mv.c3
      have m4 := hT.mv.c4
      have z := hT.mv.z
      clear hr hX hp hk h
      go_enter Try.func21, Try.ntmps21
      go_wp2_with fail
      rw [← HX.out]
      refine h1.mono ?_
      rintro e w1 ⟨rfl, hb_w1⟩
      have T1 := hT.on hb_w1
      clear p0 p1 m0 m1 m2 m3 m4 z h1
      have p0 := T1.pos.c0
      have p1 := T1.pos.c1
      have m0 := T1.mv.c0
      have m1 := T1.mv.c1
      have m2 := T1.mv.c2
      have m3 := T1.mv.c3
      have m4 := T1.mv.c4
      have z := T1.mv.z
      go_wp2
      obtain ⟨hg, hb⟩ := T1.ret 0 0 0 0 false
      exact ret_mv (r := R.no) (g := w.heap.size + 1) rfl rfl rfl rfl hg ⟨rfl, hb⟩
  · have hr : backR ls l c nn big = R.no := ifm_no fun hh => hp hh.1
    rw [hr]
    obtain ⟨X, hX⟩ : ∃ X, X = ((w.alloc (.cells #[.int .i64 l, .int .i64 c] 35)).alloc (.cells #[.int .i64 0, .int .i64 0, .int .i64 0, .bool false, .int .i64 0] 40)) := ⟨_, rfl⟩
    have hT : Two w X l c := by rw [hX]; exact Two.new w l c
    have HX := Lib.hid hX
    have h1 := inside_any a n c' ls l c X (SrcV.below h hT.below) hs
    rw [decide_eq_false hp] at h1
    have p0 := hT.pos.c0
    have p1 := hT.pos.c1
    have m0 := hT.mv.c0
    have m1 := hT.mv.c1
    have m2 := hT.mv.c2
    have m3 := hT.mv.c3
    have m4 := hT.mv.c4
    have z := hT.mv.z
    clear hr hX hp h
    go_enter Try.func21, Try.ntmps21
    go_wp2_with fail
    rw [← HX.out]
    refine h1.mono ?_
    rintro e w1 ⟨rfl, hb_w1⟩
    have T1 := hT.on hb_w1
    clear p0 p1 m0 m1 m2 m3 m4 z h1
    have p0 := T1.pos.c0
    have p1 := T1.pos.c1
    have m0 := T1.mv.c0
    have m1 := T1.mv.c1
    have m2 := T1.mv.c2
    have m3 := T1.mv.c3
    have m4 := T1.mv.c4
    have z := T1.mv.z
    go_wp2
    obtain ⟨hg, hb⟩ := T1.ret 0 0 0 0 false
    exact ret_mv (r := R.no) (g := w.heap.size + 1) rfl rfl rfl rfl hg ⟨rfl, hb⟩

set_option maxHeartbeats 8000000 in
theorem btail_any (a : Option Addr) (n c' : Nat) (ls : List ByteArray) (l c : Int) (nn : Int) (big : Bool) (w : World) (h : Ss w a n c' ls) (hs : ∀ s ∈ ls, s.size ≤ 140737488355328) (htz : tz ls ≤ 900000) (hnn : nn ≤ 9223372036854775807) :
    Calls Try.prog 25 #[.slice a n c', .agg #[.int .i64 l, .int .i64 c], .int .i64 nn, .bool big] w fun e w' => e = .returned (btailR ls l c nn big).v ∧ Below w.heap.size w w' := by
  have hlen := h.length
  have hn := h.le63
  by_cases hp : Plc ls l c
  · by_cases hk : 1 ≤ nn
    · have hp0 := hp
      obtain ⟨i, k, rfl, rfl, hi, hkk⟩ := hp0.nat
      obtain ⟨m, rfl⟩ : ∃ m : Nat, nn = m := ⟨nn.toNat, by omega⟩
      have hm1 : 1 ≤ m := by omega
      have hr : btailR ls i k m big = mvd (nthV (bef (eds big ls) (i, k)).reverse m) 1 := ifm_yes hp hm1
      rw [hr]
      obtain ⟨q, hq⟩ : ∃ q : P2 × Bool, q = nthV (bef (eds big ls) (i, k)).reverse m := ⟨_, rfl⟩
      rw [← hq]
      obtain ⟨r, hrr⟩ : ∃ r, r = mvd q 1 := ⟨_, rfl⟩
      rw [← hrr]
      have HQ := Lib.hid hq
      have HR := Lib.hid hrr
      clear hq hrr
      obtain ⟨X, hX⟩ : ∃ X, X = ((w.alloc (.cells #[.int .i64 (i : Int), .int .i64 (k : Int)] 35)).alloc (.cells #[.int .i64 0, .int .i64 0, .int .i64 0, .bool false, .int .i64 0] 40)) := ⟨_, rfl⟩
      have hT : Two w X i k := by rw [hX]; exact Two.new w i k
      have HX := Lib.hid hX
      have h1 := inside_any a n c' ls i k X (SrcV.below h hT.below) hs
      rw [decide_eq_true hp] at h1
      have hH := Lib.hid h
      have dn : decide ((m : Int) < 1) = false := decide_eq_false (by omega)
      have dn2 : decide (m < 1) = false := decide_eq_false (by omega)
      have p0 := hT.pos.c0
      have p1 := hT.pos.c1
      have m0 := hT.mv.c0
      have m1 := hT.mv.c1
      have m2 := hT.mv.c2
      have m3 := hT.mv.c3
      have m4 := hT.mv.c4
      have z := hT.mv.z
      clear hr hX hp hk hkk h
      go_enter Try.func25, Try.ntmps25
      go_wp2_with fail
      rw [← HX.out]
      refine h1.mono ?_
      rintro e w1 ⟨rfl, hb_w1⟩
      have T1 := hT.on hb_w1
      clear p0 p1 m0 m1 m2 m3 m4 z h1 HX hT hb_w1
      have p0 := T1.pos.c0
      have p1 := T1.pos.c1
      have m0 := T1.mv.c0
      have m1 := T1.mv.c1
      have m2 := T1.mv.c2
      have m3 := T1.mv.c3
      have m4 := T1.mv.c4
      have z := T1.mv.z
      have HTZ := Lib.hid htz
      have HS1 := Lib.hid (SrcV.below hH.out T1.below)
      clear htz
      go_wp2_with fail
      have F_p0 := fun (C : World → Prop) (hC : Grows w1 C) (y : In C) => hC.cell p0 y
      have F_p1 := fun (C : World → Prop) (hC : Grows w1 C) (y : In C) => hC.cell p1 y
      clear p0 p1 m0 m1 m2 m3 m4 z
      refine wp_region_fork [0, 1, 3, 4] 2 10 [(5, 0), (6, 0), (7, 0), (8, 0), (9, 2), (10, 1), (11, 3), (12, 2)] [(2, 1), (5, 0), (6, 0), (7, 0), (8, 0), (9, 2), (11, 3), (12, 2)] (by kernel_rfl) (by kernel_rfl) 36 rfl (by kernel_rfl) ?_
      simp only [List.map_cons, List.map_nil, opOf_succ, opOf_zero]
      apply Exists.intro
      refine ⟨fun C hC => ?_, fun W1 hW1 => ?_, fun W1 hW1 => ?_⟩
      · haveI hI := hC.one
        have f_p0 := F_p0 C hC
        have f_p1 := F_p1 C hC
        repeat (go_big_quiet_step (fail))
        exact wpQuiet_nil rfl
      · refine fork_call (f := 30) (args := #[.slice a n c', .bool big]) rfl rfl (by simp only [opOf_succ, opOf_zero]; go_simp) ?_
        refine (ends_tells a n c' ls big W1 (SrcV.below HS1.out hW1) hs).mono ?_
        rintro e VV ⟨v, rfl, ht, hbv⟩
        refine ⟨_, rfl, hbv, ?_⟩
        simp only [opOf_succ, opOf_zero, Act.put, List.setIfInBounds_toArray, List.set_cons_zero, List.set_cons_succ]
        have TV := (T1.on hW1).on hbv
        have hnb : ∀ W, Below VV.heap.size VV W → Calls Try.prog 44 #[v, .agg #[.int .i64 i, .int .i64 k], .int .i64 (min (m : Int) 1073741824)] W fun e w' => e = .returned (.tuple #[.agg #[.int .i64 q.1.1, .int .i64 q.1.2], .bool q.2]) ∧ Below W.heap.size W w' := fun W hW => by
          have := nthBefore_any v (i, k) (min m 1073741824) W (ht.later hW) (mks_sorted _) (Nat.le_trans (mks_tz _ _ _) (Nat.le_trans HTZ.out (by omega))) (by omega) (by omega)
          rw [nthV_cap _ (by
            have h1 := List.length_filter_le (fun x => lp x (i, k)) (eds big ls)
            have h2 : (eds big ls).length ≤ tz ls := mks_tz _ _ _
            have h3 := HTZ.out
            rw [List.length_reverse]
            unfold bef
            omega), ← HQ.out] at this
          rw [show (min (m : Int) 1073741824) = ((min m 1073741824 : Nat) : Int) by omega]
          exact this
        clear F_p0 F_p1
        refine wpPath_on (r := [(9, 2), (10, 1), (11, 3), (12, 2)]) [5, 6, 7, 8] 36 rfl (by kernel_rfl) ?_
        simp only [List.map_cons, List.map_nil, opOf_succ, opOf_zero]
        apply Exists.intro
        refine ⟨fun C hC => ?_, ?_⟩
        · haveI hI := hC.one
          repeat (go_big_quiet_step (first | (go_at_call 35; exact Calls.in_of_same hC (counted_any _ _)) | (go_at_call 44; exact Calls.in_of hC (hnb _ (hC.below _ (In.isIn _))))))
          exact wpQuiet_nil rfl
        refine wpPath_free (v := .bool q.2) rfl rfl (fun W => run_extract _ _ W) ?_
        simp only [opOf_succ, opOf_zero, Act.put, List.setIfInBounds_toArray, List.set_cons_zero, List.set_cons_succ]
        refine wpPath_make rfl fun w0 hb_w0 => ⟨_, _, rfl, run_pos w0, (Below.refl _ w0).alloc (Nat.le_refl _) _, ?_⟩
        simp only [opOf_succ, opOf_zero, Act.put, List.setIfInBounds_toArray, List.set_cons_zero, List.set_cons_succ]
        have TW := TV.on hb_w0
        have hg0 : w.heap.size + 2 ≤ w0.heap.size := TW.size
        have TA := TW.on ((Below.refl _ w0).alloc (Nat.le_refl _) (.cells #[.int .i64 0, .int .i64 0] 35))
        have hV := PosAt.new w0 0 0
        refine wpPath_store rfl fun u1 hb_u1 => ?_
        have hV2 := hV.below hb_u1 hV.lt
        refine ⟨_, rfl, run_store_pos hV2, ?_⟩
        simp only [opOf_succ, opOf_zero, Act.put, List.setIfInBounds_toArray, List.set_cons_zero, List.set_cons_succ]
        have hV3 : PosAt _ _ q.1.1 q.1.2 := So.set2 hV2
        have T4 := (TA.on hb_u1).setp hg0 q.1.1 q.1.2
        refine wpPath_free (v := .bool q.2) rfl rfl (fun _ => rfl) ?_
        simp only [opOf_succ, opOf_zero, Act.put, List.setIfInBounds_toArray, List.set_cons_zero, List.set_cons_succ]
        refine wpPath_end fun w5 hb_w5 => ?_
        have T5 := T4.on hb_w5
        have vv := hV3.below hb_w5 hV3.lt
        clear T4 hV3 hb_w5
        have p0 := T5.pos.c0
        have p1 := T5.pos.c1
        have m0 := T5.mv.c0
        have m1 := T5.mv.c1
        have m2 := T5.mv.c2
        have m3 := T5.mv.c3
        have m4 := T5.mv.c4
        have z := T5.mv.z
        have v0 := vv.c0
        have v1 := vv.c1
        have hmv := fun W => moved_any q.1 1 q.2 W
        rw [show mvd (q.1, q.2) 1 = r from HR.out.symm] at hmv
        go_wp2_with fail
        refine (hmv _).mono ?_
        rintro e w9 ⟨rfl, hb_w9⟩
        have T9 := T5.on hb_w9
        clear p0 p1 m0 m1 m2 m3 m4 z hmv v0 v1 vv
        have p0 := T9.pos.c0
        have p1 := T9.pos.c1
        have m0 := T9.mv.c0
        have m1 := T9.mv.c1
        have m2 := T9.mv.c2
        have m3 := T9.mv.c3
        have m4 := T9.mv.c4
        have z := T9.mv.z
        go_wp2
        obtain ⟨hg, hb⟩ := T9.ret r.l r.c r.way r.want r.j
        exact ret_mv (r := r) (g := w.heap.size + 1) rfl rfl rfl rfl hg ⟨rfl, hb⟩
      · refine fork_make rfl rfl (run_pos W1) ⟨(Below.refl _ W1).alloc (Nat.le_refl _) _, ?_⟩
        simp only [opOf_succ, opOf_zero, Act.put, List.setIfInBounds_toArray, List.set_cons_zero, List.set_cons_succ]
        have TW := T1.on hW1
        have hg0 : w.heap.size + 2 ≤ W1.heap.size := TW.size
        have hbA := below_on hW1 ((Below.refl _ W1).alloc (Nat.le_refl _) (.cells #[.int .i64 0, .int .i64 0] 35))
        have TA := TW.on ((Below.refl _ W1).alloc (Nat.le_refl _) (.cells #[.int .i64 0, .int .i64 0] 35))
        have hV0 := PosAt.new W1 0 0
        obtain ⟨B0, hB0⟩ : ∃ B, B = W1.heap.size := ⟨_, rfl⟩
        rw [← hB0] at hV0 hg0 ⊢
        clear hB0
        refine wpPath_call (f := 30) (args := #[.slice a n c', .bool big]) rfl rfl (fun W => by simp only [opOf_succ, opOf_zero]; go_simp) ?_
        intro W2 hb_W2
        refine (ends_tells a n c' ls big W2 (SrcV.below HS1.out (below_on hbA hb_W2)) hs).mono ?_
        rintro e VV ⟨v, rfl, ht, hbv⟩
        refine ⟨_, rfl, hbv, ?_⟩
        simp only [opOf_succ, opOf_zero, Act.put, List.setIfInBounds_toArray, List.set_cons_zero, List.set_cons_succ]
        have TV := (TA.on hb_W2).on hbv
        have hV1 := hV0.below (below_on hb_W2 hbv) hV0.lt
        have hnb : ∀ W, Below VV.heap.size VV W → Calls Try.prog 44 #[v, .agg #[.int .i64 i, .int .i64 k], .int .i64 (min (m : Int) 1073741824)] W fun e w' => e = .returned (.tuple #[.agg #[.int .i64 q.1.1, .int .i64 q.1.2], .bool q.2]) ∧ Below W.heap.size W w' := fun W hW => by
          have := nthBefore_any v (i, k) (min m 1073741824) W (ht.later hW) (mks_sorted _) (Nat.le_trans (mks_tz _ _ _) (Nat.le_trans HTZ.out (by omega))) (by omega) (by omega)
          rw [nthV_cap _ (by
            have h1 := List.length_filter_le (fun x => lp x (i, k)) (eds big ls)
            have h2 : (eds big ls).length ≤ tz ls := mks_tz _ _ _
            have h3 := HTZ.out
            rw [List.length_reverse]
            unfold bef
            omega), ← HQ.out] at this
          rw [show (min (m : Int) 1073741824) = ((min m 1073741824 : Nat) : Int) by omega]
          exact this
        clear F_p0 F_p1
        refine wpPath_on (r := [(9, 2), (11, 3), (12, 2)]) [5, 6, 7, 8] 36 rfl (by kernel_rfl) ?_
        simp only [List.map_cons, List.map_nil, opOf_succ, opOf_zero]
        apply Exists.intro
        refine ⟨fun C hC => ?_, ?_⟩
        · haveI hI := hC.one
          repeat (go_big_quiet_step (first | (go_at_call 35; exact Calls.in_of_same hC (counted_any _ _)) | (go_at_call 44; exact Calls.in_of hC (hnb _ (hC.below _ (In.isIn _))))))
          exact wpQuiet_nil rfl
        have hV := hV1
        refine wpPath_free (v := .bool q.2) rfl rfl (fun W => run_extract _ _ W) ?_
        simp only [opOf_succ, opOf_zero, Act.put, List.setIfInBounds_toArray, List.set_cons_zero, List.set_cons_succ]
        refine wpPath_store rfl fun u1 hb_u1 => ?_
        have hV2 := hV.below hb_u1 hV.lt
        refine ⟨_, rfl, run_store_pos hV2, ?_⟩
        simp only [opOf_succ, opOf_zero, Act.put, List.setIfInBounds_toArray, List.set_cons_zero, List.set_cons_succ]
        have hV3 : PosAt _ _ q.1.1 q.1.2 := So.set2 hV2
        have T4 := (TV.on hb_u1).setp hg0 q.1.1 q.1.2
        refine wpPath_free (v := .bool q.2) rfl rfl (fun _ => rfl) ?_
        simp only [opOf_succ, opOf_zero, Act.put, List.setIfInBounds_toArray, List.set_cons_zero, List.set_cons_succ]
        refine wpPath_end fun w5 hb_w5 => ?_
        have T5 := T4.on hb_w5
        have vv := hV3.below hb_w5 hV3.lt
        clear T4 hV3 hb_w5
        have p0 := T5.pos.c0
        have p1 := T5.pos.c1
        have m0 := T5.mv.c0
        have m1 := T5.mv.c1
        have m2 := T5.mv.c2
        have m3 := T5.mv.c3
        have m4 := T5.mv.c4
        have z := T5.mv.z
        have v0 := vv.c0
        have v1 := vv.c1
        have hmv := fun W => moved_any q.1 1 q.2 W
        rw [show mvd (q.1, q.2) 1 = r from HR.out.symm] at hmv
        go_wp2_with fail
        refine (hmv _).mono ?_
        rintro e w9 ⟨rfl, hb_w9⟩
        have T9 := T5.on hb_w9
        clear p0 p1 m0 m1 m2 m3 m4 z hmv v0 v1 vv
        have p0 := T9.pos.c0
        have p1 := T9.pos.c1
        have m0 := T9.mv.c0
        have m1 := T9.mv.c1
        have m2 := T9.mv.c2
        have m3 := T9.mv.c3
        have m4 := T9.mv.c4
        have z := T9.mv.z
        go_wp2
        obtain ⟨hg, hb⟩ := T9.ret r.l r.c r.way r.want r.j
        exact ret_mv (r := r) (g := w.heap.size + 1) rfl rfl rfl rfl hg ⟨rfl, hb⟩
    · have hr : btailR ls l c nn big = R.no := ifm_no fun hh => hk hh.2
      rw [hr]
      obtain ⟨X, hX⟩ : ∃ X, X = ((w.alloc (.cells #[.int .i64 l, .int .i64 c] 35)).alloc (.cells #[.int .i64 0, .int .i64 0, .int .i64 0, .bool false, .int .i64 0] 40)) := ⟨_, rfl⟩
      have hT : Two w X l c := by rw [hX]; exact Two.new w l c
      have HX := Lib.hid hX
      have h1 := inside_any a n c' ls l c X (SrcV.below h hT.below) hs
      rw [decide_eq_true hp] at h1
      have dn : decide (nn < 1) = true := decide_eq_true (by omega)
      have p0 := hT.pos.c0
      have p1 := hT.pos.c1
      have m0 := hT.mv.c0
      have m1 := hT.mv.c1
      have m2 := hT.mv.c2
      have m3 := hT.mv.c3
      have m4 := hT.mv.c4
      have z := hT.mv.z
      clear hr hX hp hk h
      go_enter Try.func25, Try.ntmps25
      go_wp2_with fail
      rw [← HX.out]
      refine h1.mono ?_
      rintro e w1 ⟨rfl, hb_w1⟩
      have T1 := hT.on hb_w1
      clear p0 p1 m0 m1 m2 m3 m4 z h1
      have p0 := T1.pos.c0
      have p1 := T1.pos.c1
      have m0 := T1.mv.c0
      have m1 := T1.mv.c1
      have m2 := T1.mv.c2
      have m3 := T1.mv.c3
      have m4 := T1.mv.c4
      have z := T1.mv.z
      go_wp2
      obtain ⟨hg, hb⟩ := T1.ret 0 0 0 0 false
      exact ret_mv (r := R.no) (g := w.heap.size + 1) rfl rfl rfl rfl hg ⟨rfl, hb⟩
  · have hr : btailR ls l c nn big = R.no := ifm_no fun hh => hp hh.1
    rw [hr]
    obtain ⟨X, hX⟩ : ∃ X, X = ((w.alloc (.cells #[.int .i64 l, .int .i64 c] 35)).alloc (.cells #[.int .i64 0, .int .i64 0, .int .i64 0, .bool false, .int .i64 0] 40)) := ⟨_, rfl⟩
    have hT : Two w X l c := by rw [hX]; exact Two.new w l c
    have HX := Lib.hid hX
    have h1 := inside_any a n c' ls l c X (SrcV.below h hT.below) hs
    rw [decide_eq_false hp] at h1
    have p0 := hT.pos.c0
    have p1 := hT.pos.c1
    have m0 := hT.mv.c0
    have m1 := hT.mv.c1
    have m2 := hT.mv.c2
    have m3 := hT.mv.c3
    have m4 := hT.mv.c4
    have z := hT.mv.z
    clear hr hX hp h
    go_enter Try.func25, Try.ntmps25
    go_wp2_with fail
    rw [← HX.out]
    refine h1.mono ?_
    rintro e w1 ⟨rfl, hb_w1⟩
    have T1 := hT.on hb_w1
    clear p0 p1 m0 m1 m2 m3 m4 z h1
    have p0 := T1.pos.c0
    have p1 := T1.pos.c1
    have m0 := T1.mv.c0
    have m1 := T1.mv.c1
    have m2 := T1.mv.c2
    have m3 := T1.mv.c3
    have m4 := T1.mv.c4
    have z := T1.mv.z
    go_wp2
    obtain ⟨hg, hb⟩ := T1.ret 0 0 0 0 false
    exact ret_mv (r := R.no) (g := w.heap.size + 1) rfl rfl rfl rfl hg ⟨rfl, hb⟩

end Go.Proofs.Ytdgckgfbdplnpaa.Wd
