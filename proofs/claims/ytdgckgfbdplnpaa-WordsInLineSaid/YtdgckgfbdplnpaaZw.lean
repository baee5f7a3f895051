/-
  Package words: Next.
-/
import Derived.Test.YtdgckgfbdplnpaaZo
import Derived.Test.YtdgckgfbdplnpaaZe
import Derived.Test.YtdgckgfbdplnpaaTw
import Derived.Test.YtdgckgfbdplnpaaMp
set_option linter.unusedVariables false
set_option linter.unusedSimpArgs false
set_option maxRecDepth 100000
namespace Go.Proofs.Ytdgckgfbdplnpaa.Wd
open Go Go.RowKit Go.Proofs.Ytdgckgfbdplnpaa.Vk Go.Proofs.Ytdgckgfbdplnpaa.Str Go.Proofs.Ytdgckgfbdplnpaa.Ln Go.Proofs.Ytdgckgfbdplnpaa.Cl Go.Proofs.Ytdgckgfbdplnpaa.Mv
attribute [local go_sem] Oper.semAt_some

set_option maxHeartbeats 8000000 in
theorem next_any (a : Option Addr) (n c' : Nat) (ls : List ByteArray) (l c : Int) (nn : Int) (big op : Bool) (w : World) (h : Ss w a n c' ls) (hs : ∀ s ∈ ls, s.size ≤ 140737488355328) (htz : tz ls ≤ 900000) (hnn : nn ≤ 9223372036854775807) :
    Calls Try.prog 18 #[.slice a n c', .agg #[.int .i64 l, .int .i64 c], .int .i64 nn, .bool big, .bool op] w fun e w' => e = .returned (nextR ls l c nn big op).v ∧ Below w.heap.size w w' := by
  have hlen := h.length
  have hn := h.le63
  by_cases hp : Plc ls l c
  · by_cases hk : 1 ≤ nn
    · have hp0 := hp
      obtain ⟨i, k, rfl, rfl, hi, hkk⟩ := hp0.nat
      obtain ⟨m, rfl⟩ : ∃ m : Nat, nn = m := ⟨nn.toNat, by omega⟩
      have hm1 : 1 ≤ m := by omega
      have hr : nextR ls i k m big op = mvd (if op = true then opV ls (i, k) (aft (sts big ls) (i, k)) m else nthV (aft (sts big ls) (i, k)) m) 0 := ifm_yes hp hm1
      rw [hr]
      obtain ⟨q, hq⟩ : ∃ q : P2 × Bool, q = (if op = true then opV ls (i, k) (aft (sts big ls) (i, k)) m else nthV (aft (sts big ls) (i, k)) m) := ⟨_, rfl⟩
      rw [← hq]
      obtain ⟨r, hrr⟩ : ∃ r, r = mvd q 0 := ⟨_, rfl⟩
      rw [← hrr]
      have HQ := Lib.hid hq
      have HR := Lib.hid hrr
      clear hq hrr
      obtain ⟨X, hX⟩ : ∃ X, X = ((w.alloc (.cells #[.int .i64 (i : Int), .int .i64 (k : Int)] 35)).alloc (.cells #[.int .i64 0, .int .i64 0, .int .i64 0, .bool false, .int .i64 0] 40)) := ⟨_, rfl⟩
      have hT : Two w X i k := by rw [hX]; exact Two.new w i k
      have HX := Lib.hid hX
      have h1 := inside_any a n c' ls i k X (SrcV.below h hT.below) hs
      rw [decide_eq_true hp] at h1
      have hH := Lib.hid h
      have dn : decide ((m : Int) < 1) = false := decide_eq_false (by omega)
      have dn2 : decide (m < 1) = false := decide_eq_false (by omega)
      have p0 := hT.pos.c0
      have p1 := hT.pos.c1
      have m0 := hT.mv.c0
      have m1 := hT.mv.c1
      have m2 := hT.mv.c2
      have m3 := hT.mv.c3
      have m4 := hT.mv.c4
      have z := hT.mv.z
      clear hr hX hp hk hkk h
      go_enter Try.func18, Try.ntmps18
      go_wp2_with fail
      rw [← HX.out]
      refine h1.mono ?_
      rintro e w1 ⟨rfl, hb_w1⟩
      have T1 := hT.on hb_w1
      clear p0 p1 m0 m1 m2 m3 m4 z h1 HX hT hb_w1
      have p0 := T1.pos.c0
      have p1 := T1.pos.c1
      have m0 := T1.mv.c0
      have m1 := T1.mv.c1
      have m2 := T1.mv.c2
      have m3 := T1.mv.c3
      have m4 := T1.mv.c4
      have z := T1.mv.z
      have HTZ := Lib.hid htz
      have HS1 := Lib.hid (SrcV.below hH.out T1.below)
      clear htz
      cases op
      · simp only [Bool.false_eq_true, if_false] at HQ
        go_wp2_with fail
        have F_p0 := fun (C : World → Prop) (hC : Grows w1 C) (y : In C) => hC.cell p0 y
        have F_p1 := fun (C : World → Prop) (hC : Grows w1 C) (y : In C) => hC.cell p1 y
        clear p0 p1 m0 m1 m2 m3 m4 z
        refine wp_region_seg [0, 1, 3] [(2, 1), (4, 1), (5, 2)] (by kernel_rfl) (by kernel_rfl) 58 rfl (by kernel_rfl) ?_
        simp only [List.map_cons, List.map_nil, opOf_succ, opOf_zero]
        apply Exists.intro
        refine ⟨fun C hC => ?_, ?_⟩
        · haveI hI := hC.one
          have f_p0 := F_p0 C hC
          have f_p1 := F_p1 C hC
          repeat (go_big_quiet_step (fail))
          exact wpQuiet_nil rfl
        clear F_p0 F_p1
        refine wpPath_call (f := 28) (args := #[.slice a n c', .bool big]) rfl rfl (fun W => by simp only [opOf_succ, opOf_zero]; go_simp) ?_
        intro A1 hb_A1
        refine (starts_tells a n c' ls big A1 (SrcV.below HS1.out hb_A1) hs).mono ?_
        rintro e A2 ⟨v0, rfl, ht0, hb_A2⟩
        refine ⟨_, rfl, hb_A2, ?_⟩
        simp only [opOf_succ, opOf_zero, Act.put, List.setIfInBounds_toArray, List.set_cons_zero, List.set_cons_succ]
        refine wpPath_call (f := 33) (args := #[v0, .agg #[.int .i64 i, .int .i64 k]]) rfl rfl (fun W => by simp only [opOf_succ, opOf_zero]; go_simp) ?_
        intro A3 hb_A3
        refine (after_tells v0 (i, k) A3 (ht0.later hb_A3)).mono ?_
        rintro e A4 ⟨v, rfl, ht1, hb_A4⟩
        refine ⟨_, rfl, hb_A4, ?_⟩
        simp only [opOf_succ, opOf_zero, Act.put, List.setIfInBounds_toArray, List.set_cons_zero, List.set_cons_succ]
        refine wpPath_free (v := v) rfl rfl (fun _ => rfl) ?_
        simp only [opOf_succ, opOf_zero, Act.put, List.setIfInBounds_toArray, List.set_cons_zero, List.set_cons_succ]
        refine wpPath_end fun w2 hb_e => ?_
        have T2 := (T1.on (below_on hb_A1 hb_A2)).on (below_on hb_A3 (below_on hb_A4 hb_e))
        have HTv := Lib.hid (ht1.later hb_e)
        have HSw2 := Lib.hid (SrcV.below HS1.out (below_on (below_on hb_A1 hb_A2) (below_on hb_A3 (below_on hb_A4 hb_e))))
        clear ht0 ht1 hb_A1 hb_A2 hb_A3 hb_A4 hb_e
        have p0 := T2.pos.c0
        have p1 := T2.pos.c1
        have m0 := T2.mv.c0
        have m1 := T2.mv.c1
        have m2 := T2.mv.c2
        have m3 := T2.mv.c3
        have m4 := T2.mv.c4
        have z := T2.mv.z
        have hnth : ∀ V, Below w2.heap.size w2 V → Calls Try.prog 37 #[v, .int .i64 (min (m : Int) 1073741824)] V fun e w' => e = .returned (.tuple #[.agg #[.int .i64 q.1.1, .int .i64 q.1.2], .bool q.2]) ∧ Below V.heap.size V w' := fun V hV => by
          have := nth_any v (min m 1073741824) V (HTv.out.later hV) (by omega) (by omega)
          have hlen2 : (aft (sts big ls) (i, k)).length < 1073741824 := (by
              have h1 := List.length_filter_le (fun x => lp (i, k) x) (sts big ls)
              have h2 : (sts big ls).length ≤ tz ls := mks_tz _ _ _
              have h3 := HTZ.out
              first | (unfold aft; omega) | (unfold atf; omega))
          rw [nthV_cap _ hlen2, ← HQ.out] at this
          rw [show (min (m : Int) 1073741824) = ((min m 1073741824 : Nat) : Int) by omega]
          exact this
        go_wp2_with fail
        refine (counted_any _ _).mono ?_
        rintro e w' ⟨rfl, rfl⟩
        go_wp2_with fail
        refine (hnth _ (Below.refl _ _)).mono ?_
        rintro e w4 ⟨rfl, hb_w4⟩
        have T4 := T2.on hb_w4
        clear hnth hb_w4 p0 p1 m0 m1 m2 m3 m4 z
        have p0 := T4.pos.c0
        have p1 := T4.pos.c1
        have m0 := T4.mv.c0
        have m1 := T4.mv.c1
        have m2 := T4.mv.c2
        have m3 := T4.mv.c3
        have m4 := T4.mv.c4
        have z := T4.mv.z
        go_upto_region 8 with fail
        obtain ⟨w5, hw5⟩ : ∃ w5, w5 = w4.alloc (.cells #[.int .i64 q.1.1, .int .i64 q.1.2] 35) := ⟨_, rfl⟩
        have vv := PosAt.new w4 q.1.1 q.1.2
        have hb5 : Below w4.heap.size w4 w5 := by rw [hw5]; exact (Below.refl _ w4).alloc (Nat.le_refl _) _
        rw [← hw5] at vv ⊢
        have T5 := T4.on hb5
        clear hw5 hb5 p0 p1 m0 m1 m2 m3 m4 z
        have p0 := T5.pos.c0
        have p1 := T5.pos.c1
        have m0 := T5.mv.c0
        have m1 := T5.mv.c1
        have m2 := T5.mv.c2
        have m3 := T5.mv.c3
        have m4 := T5.mv.c4
        have z := T5.mv.z
        have v0 := vv.c0
        have v1 := vv.c1
        have hmv := fun W => moved_any q.1 0 q.2 W
        rw [show mvd (q.1, q.2) 0 = r from HR.out.symm] at hmv
        go_wp2_with fail
        refine (hmv _).mono ?_
        rintro e w9 ⟨rfl, hb_w9⟩
        have T9 := T5.on hb_w9
        clear p0 p1 m0 m1 m2 m3 m4 z hmv v0 v1 vv
        have p0 := T9.pos.c0
        have p1 := T9.pos.c1
        have m0 := T9.mv.c0
        have m1 := T9.mv.c1
        have m2 := T9.mv.c2
        have m3 := T9.mv.c3
        have m4 := T9.mv.c4
        have z := T9.mv.z
        go_wp2
        obtain ⟨hg, hb⟩ := T9.ret r.l r.c r.way r.want r.j
        exact ret_mv (r := r) (g := w.heap.size + 1) rfl rfl rfl rfl hg ⟨rfl, hb⟩
      · simp only [if_true] at HQ
        go_wp2_with fail
        have F_p0 := fun (C : World → Prop) (hC : Grows w1 C) (y : In C) => hC.cell p0 y
        have F_p1 := fun (C : World → Prop) (hC : Grows w1 C) (y : In C) => hC.cell p1 y
        clear p0 p1 m0 m1 m2 m3 m4 z
        refine wp_region_seg [0, 1, 3] [(2, 1), (4, 1), (5, 2)] (by kernel_rfl) (by kernel_rfl) 58 rfl (by kernel_rfl) ?_
        simp only [List.map_cons, List.map_nil, opOf_succ, opOf_zero]
        apply Exists.intro
        refine ⟨fun C hC => ?_, ?_⟩
        · haveI hI := hC.one
          have f_p0 := F_p0 C hC
          have f_p1 := F_p1 C hC
          repeat (go_big_quiet_step (fail))
          exact wpQuiet_nil rfl
        clear F_p0 F_p1
        refine wpPath_call (f := 28) (args := #[.slice a n c', .bool big]) rfl rfl (fun W => by simp only [opOf_succ, opOf_zero]; go_simp) ?_
        intro A1 hb_A1
        refine (starts_tells a n c' ls big A1 (SrcV.below HS1.out hb_A1) hs).mono ?_
        rintro e A2 ⟨v0, rfl, ht0, hb_A2⟩
        refine ⟨_, rfl, hb_A2, ?_⟩
        simp only [opOf_succ, opOf_zero, Act.put, List.setIfInBounds_toArray, List.set_cons_zero, List.set_cons_succ]
        refine wpPath_call (f := 33) (args := #[v0, .agg #[.int .i64 i, .int .i64 k]]) rfl rfl (fun W => by simp only [opOf_succ, opOf_zero]; go_simp) ?_
        intro A3 hb_A3
        refine (after_tells v0 (i, k) A3 (ht0.later hb_A3)).mono ?_
        rintro e A4 ⟨v, rfl, ht1, hb_A4⟩
        refine ⟨_, rfl, hb_A4, ?_⟩
        simp only [opOf_succ, opOf_zero, Act.put, List.setIfInBounds_toArray, List.set_cons_zero, List.set_cons_succ]
        refine wpPath_free (v := v) rfl rfl (fun _ => rfl) ?_
        simp only [opOf_succ, opOf_zero, Act.put, List.setIfInBounds_toArray, List.set_cons_zero, List.set_cons_succ]
        refine wpPath_end fun w2 hb_e => ?_
        have T2 := (T1.on (below_on hb_A1 hb_A2)).on (below_on hb_A3 (below_on hb_A4 hb_e))
        have HTv := Lib.hid (ht1.later hb_e)
        have HSw2 := Lib.hid (SrcV.below HS1.out (below_on (below_on hb_A1 hb_A2) (below_on hb_A3 (below_on hb_A4 hb_e))))
        clear ht0 ht1 hb_A1 hb_A2 hb_A3 hb_A4 hb_e
        have p0 := T2.pos.c0
        have p1 := T2.pos.c1
        have m0 := T2.mv.c0
        have m1 := T2.mv.c1
        have m2 := T2.mv.c2
        have m3 := T2.mv.c3
        have m4 := T2.mv.c4
        have z := T2.mv.z
        have hop : ∀ V, Below w2.heap.size w2 V → Calls Try.prog 34 #[.slice a n c', .agg #[.int .i64 i, .int .i64 k], v, .int .i64 (min (m : Int) 1073741824)] V fun e w' => e = .returned (.tuple #[.agg #[.int .i64 q.1.1, .int .i64 q.1.2], .bool q.2]) ∧ Below V.heap.size V w' := fun V hV => by
          have := operated_any a n c' ls v (i, k) (min m 1073741824) V (SrcV.below HSw2.out hV) (by omega) (HTv.out.later hV) (fun x hx => by have := (mks_mem (List.mem_filter.1 hx).1).1; omega) (by omega) (by omega)
          have hlen2 : (aft (sts big ls) (i, k)).length + 1 < 1073741824 := (by
              have h1 := List.length_filter_le (fun x => lp (i, k) x) (sts big ls)
              have h2 : (sts big ls).length ≤ tz ls := mks_tz _ _ _
              have h3 := HTZ.out
              first | (unfold aft; omega) | (unfold atf; omega))
          rw [opV_cap _ hlen2, ← HQ.out] at this
          rw [show (min (m : Int) 1073741824) = ((min m 1073741824 : Nat) : Int) by omega]
          exact this
        go_wp2_with fail
        have F_p0 := fun (C : World → Prop) (hC : Grows w2 C) (y : In C) => hC.cell p0 y
        have F_p1 := fun (C : World → Prop) (hC : Grows w2 C) (y : In C) => hC.cell p1 y
        clear p0 p1 m0 m1 m2 m3 m4 z
        refine wp_region_seg [0, 1, 2, 3, 4, 5, 6, 7] [(8, 2), (9, 1), (10, 3), (11, 2)] (by kernel_rfl) (by kernel_rfl) 58 rfl (by kernel_rfl) ?_
        simp only [List.map_cons, List.map_nil, opOf_succ, opOf_zero]
        apply Exists.intro
        refine ⟨fun C hC => ?_, ?_⟩
        · haveI hI := hC.one
          have f_p0 := F_p0 C hC
          have f_p1 := F_p1 C hC
          repeat (go_big_quiet_step (first | (go_at_call 35; exact Calls.in_of_same hC (counted_any _ _)) | (go_at_call 34; exact Calls.in_of hC (hop _ (hC.below _ (In.isIn _))))))
          exact wpQuiet_nil rfl
        clear F_p0 F_p1
        refine wpPath_free (v := .bool q.2) rfl rfl (fun W => run_extract _ _ W) ?_
        simp only [opOf_succ, opOf_zero, Act.put, List.setIfInBounds_toArray, List.set_cons_zero, List.set_cons_succ]
        refine wpPath_make rfl fun w0 hb_w0 => ⟨_, _, rfl, run_pos w0, (Below.refl _ w0).alloc (Nat.le_refl _) _, ?_⟩
        simp only [opOf_succ, opOf_zero, Act.put, List.setIfInBounds_toArray, List.set_cons_zero, List.set_cons_succ]
        have TW := T2.on hb_w0
        have hg0 : w.heap.size + 2 ≤ w0.heap.size := TW.size
        have TA := TW.on ((Below.refl _ w0).alloc (Nat.le_refl _) (.cells #[.int .i64 0, .int .i64 0] 35))
        have hV := PosAt.new w0 0 0
        refine wpPath_store rfl fun u1 hb_u1 => ?_
        have hV2 := hV.below hb_u1 hV.lt
        refine ⟨_, rfl, run_store_pos hV2, ?_⟩
        simp only [opOf_succ, opOf_zero, Act.put, List.setIfInBounds_toArray, List.set_cons_zero, List.set_cons_succ]
        have hV3 : PosAt _ _ q.1.1 q.1.2 := So.set2 hV2
        have T4 := (TA.on hb_u1).setp hg0 q.1.1 q.1.2
        refine wpPath_free (v := .bool q.2) rfl rfl (fun _ => rfl) ?_
        simp only [opOf_succ, opOf_zero, Act.put, List.setIfInBounds_toArray, List.set_cons_zero, List.set_cons_succ]
        refine wpPath_end fun w5 hb_w5 => ?_
        have T5 := T4.on hb_w5
        have vv := hV3.below hb_w5 hV3.lt
        clear T4 hV3 hb_w5
        have p0 := T5.pos.c0
        have p1 := T5.pos.c1
        have m0 := T5.mv.c0
        have m1 := T5.mv.c1
        have m2 := T5.mv.c2
        have m3 := T5.mv.c3
        have m4 := T5.mv.c4
        have z := T5.mv.z
        have v0 := vv.c0
        have v1 := vv.c1
        have hmv := fun W => moved_any q.1 0 q.2 W
        rw [show mvd (q.1, q.2) 0 = r from HR.out.symm] at hmv
        go_wp2_with fail
        refine (hmv _).mono ?_
        rintro e w9 ⟨rfl, hb_w9⟩
        have T9 := T5.on hb_w9
        clear p0 p1 m0 m1 m2 m3 m4 z hmv v0 v1 vv
        have p0 := T9.pos.c0
        have p1 := T9.pos.c1
        have m0 := T9.mv.c0
        have m1 := T9.mv.c1
        have m2 := T9.mv.c2
        have m3 := T9.mv.c3
        have m4 := T9.mv.c4
        have z := T9.mv.z
        go_wp2
        obtain ⟨hg, hb⟩ := T9.ret r.l r.c r.way r.want r.j
        exact ret_mv (r := r) (g := w.heap.size + 1) rfl rfl rfl rfl hg ⟨rfl, hb⟩
    · have hr : nextR ls l c nn big op = R.no := ifm_no fun hh => hk hh.2
      rw [hr]
      obtain ⟨X, hX⟩ : ∃ X, X = ((w.alloc (.cells #[.int .i64 l, .int .i64 c] 35)).alloc (.cells #[.int .i64 0, .int .i64 0, .int .i64 0, .bool false, .int .i64 0] 40)) := ⟨_, rfl⟩
      have hT : Two w X l c := by rw [hX]; exact Two.new w l c
      have HX := Lib.hid hX
      have h1 := inside_any a n c' ls l c X (SrcV.below h hT.below) hs
      rw [decide_eq_true hp] at h1
      have dn : decide (nn < 1) = true := decide_eq_true (by omega)
      have p0 := hT.pos.c0
      have p1 := hT.pos.c1
      have m0 := hT.mv.c0
      have m1 := hT.mv.c1
      have m2 := hT.mv.c2
      have m3 := hT.mv.c3
      have m4 := hT.mv.c4
      have z := hT.mv.z
      clear hr hX hp hk h
      go_enter Try.func18, Try.ntmps18
      go_wp2_with fail
      rw [← HX.out]
      refine h1.mono ?_
      rintro e w1 ⟨rfl, hb_w1⟩
      have T1 := hT.on hb_w1
      clear p0 p1 m0 m1 m2 m3 m4 z h1
      have p0 := T1.pos.c0
      have p1 := T1.pos.c1
      have m0 := T1.mv.c0
      have m1 := T1.mv.c1
      have m2 := T1.mv.c2
      have m3 := T1.mv.c3
      have m4 := T1.mv.c4
      have z := T1.mv.z
      go_wp2
      obtain ⟨hg, hb⟩ := T1.ret 0 0 0 0 false
      exact ret_mv (r := R.no) (g := w.heap.size + 1) rfl rfl rfl rfl hg ⟨rfl, hb⟩
  · have hr : nextR ls l c nn big op = R.no := ifm_no fun hh => hp hh.1
    rw [hr]
    obtain ⟨X, hX⟩ : ∃ X, X = ((w.alloc (.cells #[.int .i64 l, .int .i64 c] 35)).alloc (.cells #[.int .i64 0, .int .i64 0, .int .i64 0, .bool false, .int .i64 0] 40)) := ⟨_, rfl⟩
    have hT : Two w X l c := by rw [hX]; exact Two.new w l c
    have HX := Lib.hid hX
    have h1 := inside_any a n c' ls l c X (SrcV.below h hT.below) hs
    rw [decide_eq_false hp] at h1
    have p0 := hT.pos.c0
    have p1 := hT.pos.c1
    have m0 := hT.mv.c0
    have m1 := hT.mv.c1
    have m2 := hT.mv.c2
    have m3 := hT.mv.c3
    have m4 := hT.mv.c4
    have z := hT.mv.z
    clear hr hX hp h
    go_enter Try.func18, Try.ntmps18
    go_wp2_with fail
    rw [← HX.out]
    refine h1.mono ?_
    rintro e w1 ⟨rfl, hb_w1⟩
    have T1 := hT.on hb_w1
    clear p0 p1 m0 m1 m2 m3 m4 z h1
    have p0 := T1.pos.c0
    have p1 := T1.pos.c1
    have m0 := T1.mv.c0
    have m1 := T1.mv.c1
    have m2 := T1.mv.c2
    have m3 := T1.mv.c3
    have m4 := T1.mv.c4
    have z := T1.mv.z
    go_wp2
    obtain ⟨hg, hb⟩ := T1.ret 0 0 0 0 false
    exact ret_mv (r := R.no) (g := w.heap.size + 1) rfl rfl rfl rfl hg ⟨rfl, hb⟩

end Go.Proofs.Ytdgckgfbdplnpaa.Wd
