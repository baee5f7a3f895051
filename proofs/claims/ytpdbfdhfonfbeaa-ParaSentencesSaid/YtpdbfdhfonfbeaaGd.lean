/-
  The document's motions by sentences.
-/
import Derived.Test.YtpdbfdhfonfbeaaGq
import Derived.Test.YtpdbfdhfonfbeaaGs
import Derived.Test.YtpdbfdhfonfbeaaGm
import Derived.Test.YtpdbfdhfonfbeaaZe
set_option linter.unusedVariables false
set_option linter.unusedSimpArgs false
set_option maxRecDepth 100000
namespace Go.Proofs.Ytpdbfdhfonfbeaa.Pa
open Go Go.RowKit Go.Proofs.Ytpdbfdhfonfbeaa.Vk Go.Proofs.Ytpdbfdhfonfbeaa.Str Go.Proofs.Ytpdbfdhfonfbeaa.Ln Go.Proofs.Ytpdbfdhfonfbeaa.Cl Go.Proofs.Ytpdbfdhfonfbeaa.Mv Go.Proofs.Ytpdbfdhfonfbeaa.Wd
attribute [local go_sem] Oper.semAt_some

theorem at_getD {L : List P2} {m : Nat} (h : m - 1 < L.length) : L.getD (m - 1) (0, 0) = L[m - 1] := by
  rw [List.getD_eq_getElem?_getD, List.getElem?_eq_getElem h]; rfl

set_option maxHeartbeats 8000000 in
theorem sback5_any (a : Option Addr) (n c' : Nat) (ls : List ByteArray) (l c : Int) (nn : Int)  (w : World) (h : Ss w a n c' ls) (hs : ∀ s ∈ ls, s.size ≤ 140737488355328) (hn6 : n ≤ 1000000) (htz : tz ls ≤ 900000) (hnn : nn ≤ 9223372036854775807) :
    Calls Try.prog 25 #[.slice a n c', .agg #[.int .i64 l, .int .i64 c], .int .i64 nn] w fun e w' => e = .returned (sbR ls l c nn).v ∧ Below w.heap.size w w' := by
  have hlen := h.length
  have hn := h.le63
  by_cases hpk : Plc ls l c ∧ 1 ≤ nn
  · obtain ⟨hp, hk⟩ := hpk
    have hp0 := hp
    obtain ⟨i, k, rfl, rfl, hi, hkk⟩ := hp0.nat
    obtain ⟨m, rfl⟩ : ∃ m : Nat, nn = m := ⟨nn.toNat, by omega⟩
    have hm1 : 1 ≤ m := by omega
    have hr : sbR ls i k m = jmp (nthV (bef (sen ls) (i, k)).reverse m) := ifm_yes hp hm1
    rw [hr]
    obtain ⟨r, hrr⟩ : ∃ r, r = jmp (nthV (bef (sen ls) (i, k)).reverse m) := ⟨_, rfl⟩
    rw [← hrr]
    have HR := Lib.hid hrr
    clear hrr
    obtain ⟨X, hX⟩ : ∃ X, X = ((w.alloc (.cells #[.int .i64 (i : Int), .int .i64 (k : Int)] 24)).alloc (.cells #[.int .i64 0, .int .i64 0, .int .i64 0, .bool false, .int .i64 0] 32)) := ⟨_, rfl⟩
    have hT : Two w X i k := by rw [hX]; exact Two.new w i k
    have HX := Lib.hid hX
    have h1 := may_any a n c' ls i k m X (SrcV.below h hT.below)
    rw [decide_eq_true (p := Plc ls (i : Int) (k : Int) ∧ 1 ≤ (m : Int)) ⟨hp, hk⟩] at h1
    have HS := Lib.hid h
    have p0 := hT.pos.c0
    have p1 := hT.pos.c1
    have m0 := hT.mv.c0
    have m1 := hT.mv.c1
    have m2 := hT.mv.c2
    have m3 := hT.mv.c3
    have m4 := hT.mv.c4
    have z := hT.mv.z
    clear hr hX hp hk hkk h
    go_enter Try.func25, Try.ntmps25
    go_wp2_with fail
    rw [← HX.out]
    refine h1.mono ?_
    rintro e w1 ⟨rfl, hb_w1⟩
    have T1 := hT.on hb_w1
    clear p0 p1 m0 m1 m2 m3 m4 z h1 HX hT hb_w1
    have p0 := T1.pos.c0
    have p1 := T1.pos.c1
    have m0 := T1.mv.c0
    have m1 := T1.mv.c1
    have m2 := T1.mv.c2
    have m3 := T1.mv.c3
    have m4 := T1.mv.c4
    have z := T1.mv.z
    have HTZ := Lib.hid htz
    have HS1 := Lib.hid (SrcV.below HS.out T1.below)
    clear htz
    go_wp2_with fail
    have F_p0 := fun (C : World → Prop) (hC : Grows w1 C) (y : In C) => hC.cell p0 y
    have F_p1 := fun (C : World → Prop) (hC : Grows w1 C) (y : In C) => hC.cell p1 y
    clear p0 p1 m0 m1 m2 m3 m4 z
    refine wp_region_seg [0, 2] [(1, 1), (3, 1), (4, 2)] (by kernel_rfl) (by kernel_rfl) 36 rfl (by kernel_rfl) ?_
    simp only [List.map_cons, List.map_nil, opOf_succ, opOf_zero]
    apply Exists.intro
    refine ⟨fun C hC => ?_, ?_⟩
    · haveI hI := hC.one
      have f_p0 := F_p0 C hC
      have f_p1 := F_p1 C hC
      repeat (go_big_quiet_step (fail))
      exact wpQuiet_nil rfl
    clear F_p0 F_p1
    refine wpPath_call (f := 19) (args := #[.slice a n c']) rfl rfl (fun W => by simp only [opOf_succ, opOf_zero]; go_simp) ?_
    intro A1 hb_A1
    refine (sentences5_any a n c' ls A1 (SrcV.below HS1.out hb_A1) hs HTZ.out).mono ?_
    rintro e A2 ⟨b1, N1, c1, rfl, hps1, hb_A2⟩
    refine ⟨_, rfl, hb_A2, ?_⟩
    simp only [opOf_succ, opOf_zero, Act.put, List.setIfInBounds_toArray, List.set_cons_zero, List.set_cons_succ]
    have hl2 : N1 ≤ 2000000 := by rw [← hps1.length]; exact Nat.le_trans (sen_tz _) (Nat.le_trans HTZ.out (by omega))
    refine wpPath_call (f := 43) (args := #[.slice b1 N1 c1, .agg #[.int .i64 i, .int .i64 k]]) rfl rfl (fun W => by simp only [opOf_succ, opOf_zero]; go_simp) ?_
    intro A3 hb_A3
    refine (ahead5_n b1 _ c1 (sen ls) (i, k) A3 (hps1.below hb_A3) hl2).mono ?_
    rintro e A4 ⟨b2, N2, c2, rfl, hps, hb_A4⟩
    refine ⟨_, rfl, hb_A4, ?_⟩
    simp only [opOf_succ, opOf_zero, Act.put, List.setIfInBounds_toArray, List.set_cons_zero, List.set_cons_succ]
    have T4 := (T1.on (below_on hb_A1 hb_A2)).on (below_on hb_A3 hb_A4)
    refine wpPath_free (v := .slice b2 N2 c2) rfl rfl (fun _ => rfl) ?_
    simp only [opOf_succ, opOf_zero, Act.put, List.setIfInBounds_toArray, List.set_cons_zero, List.set_cons_succ]
    refine wpPath_end fun w5 hb_w5 => ?_
    have T5 := T4.on hb_w5
    have hps5 := hps.below hb_w5
    have hlen2 := hps5.length
    have hn2 := hps5.le63
    clear hps hps1 hb_w5 T4 hb_A1 hb_A2 hb_A3 hb_A4 T1
    obtain ⟨L, hL⟩ : ∃ L, L = (bef (sen ls) (i, k)).reverse := ⟨_, rfl⟩
    rw [← hL] at hps5 hlen2
    obtain ⟨k1, hk1⟩ : ∃ k1, k1 = m - 1 := ⟨_, rfl⟩
    have hw : IntKind.i64.wrap ((m : Int) - 1) = (k1 : Int) := by rw [IntKind.wrap_i64]; omega
    have HLR : r = jmp (nthV L m) := by rw [HR.out, hL]
    have HLR := Lib.hid HLR
    clear hL
    by_cases hmN : m ≤ N2
    · obtain ⟨bb, oo, rfl, cx, cy, hnc⟩ := hps5.read (m - 1) (by omega)
      obtain ⟨x, hx⟩ : ∃ x : P2, x = L[m - 1]'(by omega) := ⟨_, rfl⟩
      rw [← hx, ← hk1] at cx cy
      have hrq : r = ⟨x.1, x.2, 0, true, -1, true⟩ := by rw [HLR.out]; unfold nthV; rw [if_neg (by omega), at_getD (by omega), ← hx]; rfl
      have HRQ := Lib.hid hrq
      have dk : decide ((N2 : Int) < (m : Int)) = false := decide_eq_false (by omega)
      have dk2 : decide (N2 < m) = false := decide_eq_false (by omega)
      have hkn : k1 < N2 := by omega
      have hj := fun W => jump5_any x.1 x.2 W
      have p0 := T5.pos.c0
      have p1 := T5.pos.c1
      have m0 := T5.mv.c0
      have m1 := T5.mv.c1
      have m2 := T5.mv.c2
      have m3 := T5.mv.c3
      have m4 := T5.mv.c4
      have z := T5.mv.z
      clear hrq hx hk1 hps5 hlen2 
      go_wp2_with fail
      refine (hj _).mono ?_
      rintro e w8 ⟨rfl, hb_w8⟩
      have T8 := T5.on hb_w8
      clear p0 p1 m0 m1 m2 m3 m4 z
      have p0 := T8.pos.c0
      have p1 := T8.pos.c1
      have m0 := T8.mv.c0
      have m1 := T8.mv.c1
      have m2 := T8.mv.c2
      have m3 := T8.mv.c3
      have m4 := T8.mv.c4
      have z := T8.mv.z
      clear hj cx cy
      go_wp2
      obtain ⟨hg, hb⟩ := T8.ret x.1 x.2 0 (-1) true
      exact ret_mv (r := ⟨x.1, x.2, 0, true, -1, true⟩) (g := w.heap.size + 1) rfl rfl rfl rfl hg ⟨by rw [HRQ.out], hb⟩
    · have hrq : r = R.no := by rw [HLR.out, nthV_no (by omega)]; rfl
      have HRQ := Lib.hid hrq
      have dk : decide ((N2 : Int) < (m : Int)) = true := decide_eq_true (by omega)
      have dk2 : decide (N2 < m) = true := decide_eq_true (by omega)
      have p0 := T5.pos.c0
      have p1 := T5.pos.c1
      have m0 := T5.mv.c0
      have m1 := T5.mv.c1
      have m2 := T5.mv.c2
      have m3 := T5.mv.c3
      have m4 := T5.mv.c4
      have z := T5.mv.z
      clear hrq
      go_wp2_with fail
      refine (none_any' _).mono ?_
      rintro e w8 ⟨rfl, hb_w8⟩
      have T8 := T5.on hb_w8
      clear p0 p1 m0 m1 m2 m3 m4 z
      have p0 := T8.pos.c0
      have p1 := T8.pos.c1
      have m0 := T8.mv.c0
      have m1 := T8.mv.c1
      have m2 := T8.mv.c2
      have m3 := T8.mv.c3
      have m4 := T8.mv.c4
      have z := T8.mv.z
      go_wp2
      obtain ⟨hg, hb⟩ := T8.ret 0 0 0 0 false
      exact ret_mv (r := R.no) (g := w.heap.size + 1) rfl rfl rfl rfl hg ⟨by rw [HRQ.out], hb⟩
  · have hr : sbR ls l c nn = R.no := ifm_no hpk
    rw [hr]
    obtain ⟨X, hX⟩ : ∃ X, X = ((w.alloc (.cells #[.int .i64 l, .int .i64 c] 24)).alloc (.cells #[.int .i64 0, .int .i64 0, .int .i64 0, .bool false, .int .i64 0] 32)) := ⟨_, rfl⟩
    have hT : Two w X l c := by rw [hX]; exact Two.new w l c
    have HX := Lib.hid hX
    have h1 := may_any a n c' ls l c nn X (SrcV.below h hT.below)
    rw [decide_eq_false hpk] at h1
    have p0 := hT.pos.c0
    have p1 := hT.pos.c1
    have m0 := hT.mv.c0
    have m1 := hT.mv.c1
    have m2 := hT.mv.c2
    have m3 := hT.mv.c3
    have m4 := hT.mv.c4
    have z := hT.mv.z
    clear hr hX hpk h
    go_enter Try.func25, Try.ntmps25
    go_wp2_with fail
    rw [← HX.out]
    refine h1.mono ?_
    rintro e w1 ⟨rfl, hb_w1⟩
    have T1 := hT.on hb_w1
    clear p0 p1 m0 m1 m2 m3 m4 z h1
    have p0 := T1.pos.c0
    have p1 := T1.pos.c1
    have m0 := T1.mv.c0
    have m1 := T1.mv.c1
    have m2 := T1.mv.c2
    have m3 := T1.mv.c3
    have m4 := T1.mv.c4
    have z := T1.mv.z
    go_wp2_with fail
    refine (none_any' _).mono ?_
    rintro e w2 ⟨rfl, hb_w2⟩
    have T2 := T1.on hb_w2
    clear p0 p1 m0 m1 m2 m3 m4 z
    have p0 := T2.pos.c0
    have p1 := T2.pos.c1
    have m0 := T2.mv.c0
    have m1 := T2.mv.c1
    have m2 := T2.mv.c2
    have m3 := T2.mv.c3
    have m4 := T2.mv.c4
    have z := T2.mv.z
    go_wp2
    obtain ⟨hg, hb⟩ := T2.ret 0 0 0 0 false
    exact ret_mv (r := R.no) (g := w.heap.size + 1) rfl rfl rfl rfl hg ⟨rfl, hb⟩

set_option maxHeartbeats 8000000 in
theorem snext5_any (a : Option Addr) (n c' : Nat) (ls : List ByteArray) (l c : Int) (nn : Int) (past : Bool) (w : World) (h : Ss w a n c' ls) (hs : ∀ s ∈ ls, s.size ≤ 140737488355328) (hn6 : n ≤ 1000000) (htz : tz ls ≤ 900000) (hnn : nn ≤ 9223372036854775807) :
    Calls Try.prog 23 #[.slice a n c', .agg #[.int .i64 l, .int .i64 c], .int .i64 nn, .bool past] w fun e w' => e = .returned (snR ls l c nn past).v ∧ Below w.heap.size w w' := by
  have hlen := h.length
  have hn := h.le63
  by_cases hpk : Plc ls l c ∧ 1 ≤ nn
  · obtain ⟨hp, hk⟩ := hpk
    have hp0 := hp
    obtain ⟨i, k, rfl, rfl, hi, hkk⟩ := hp0.nat
    obtain ⟨m, rfl⟩ : ∃ m : Nat, nn = m := ⟨nn.toNat, by omega⟩
    have hm1 : 1 ≤ m := by omega
    have hr : snR ls i k m past = jmp (snV ls past (i, k) (aft (sen ls) (i, k)) m) := ifm_yes hp hm1
    rw [hr]
    obtain ⟨r, hrr⟩ : ∃ r, r = jmp (snV ls past (i, k) (aft (sen ls) (i, k)) m) := ⟨_, rfl⟩
    rw [← hrr]
    have HR := Lib.hid hrr
    clear hrr
    obtain ⟨X, hX⟩ : ∃ X, X = ((w.alloc (.cells #[.int .i64 (i : Int), .int .i64 (k : Int)] 24)).alloc (.cells #[.int .i64 0, .int .i64 0, .int .i64 0, .bool false, .int .i64 0] 32)) := ⟨_, rfl⟩
    have hT : Two w X i k := by rw [hX]; exact Two.new w i k
    have HX := Lib.hid hX
    have h1 := may_any a n c' ls i k m X (SrcV.below h hT.below)
    rw [decide_eq_true (p := Plc ls (i : Int) (k : Int) ∧ 1 ≤ (m : Int)) ⟨hp, hk⟩] at h1
    have HS := Lib.hid h
    have p0 := hT.pos.c0
    have p1 := hT.pos.c1
    have m0 := hT.mv.c0
    have m1 := hT.mv.c1
    have m2 := hT.mv.c2
    have m3 := hT.mv.c3
    have m4 := hT.mv.c4
    have z := hT.mv.z
    clear hr hX hp hk hkk h
    go_enter Try.func23, Try.ntmps23
    go_wp2_with fail
    rw [← HX.out]
    refine h1.mono ?_
    rintro e w1 ⟨rfl, hb_w1⟩
    have T1 := hT.on hb_w1
    clear p0 p1 m0 m1 m2 m3 m4 z h1 HX hT hb_w1
    have p0 := T1.pos.c0
    have p1 := T1.pos.c1
    have m0 := T1.mv.c0
    have m1 := T1.mv.c1
    have m2 := T1.mv.c2
    have m3 := T1.mv.c3
    have m4 := T1.mv.c4
    have z := T1.mv.z
    have HTZ := Lib.hid htz
    have HS1 := Lib.hid (SrcV.below HS.out T1.below)
    clear htz
    go_wp2_with fail
    have F_p0 := fun (C : World → Prop) (hC : Grows w1 C) (y : In C) => hC.cell p0 y
    have F_p1 := fun (C : World → Prop) (hC : Grows w1 C) (y : In C) => hC.cell p1 y
    clear p0 p1 m0 m1 m2 m3 m4 z
    refine wp_region_seg [0, 2] [(1, 1), (3, 1), (4, 2)] (by kernel_rfl) (by kernel_rfl) 58 rfl (by kernel_rfl) ?_
    simp only [List.map_cons, List.map_nil, opOf_succ, opOf_zero]
    apply Exists.intro
    refine ⟨fun C hC => ?_, ?_⟩
    · haveI hI := hC.one
      have f_p0 := F_p0 C hC
      have f_p1 := F_p1 C hC
      repeat (go_big_quiet_step (fail))
      exact wpQuiet_nil rfl
    clear F_p0 F_p1
    refine wpPath_call (f := 19) (args := #[.slice a n c']) rfl rfl (fun W => by simp only [opOf_succ, opOf_zero]; go_simp) ?_
    intro A1 hb_A1
    refine (sentences5_any a n c' ls A1 (SrcV.below HS1.out hb_A1) hs HTZ.out).mono ?_
    rintro e A2 ⟨b1, N1, c1, rfl, hps1, hb_A2⟩
    refine ⟨_, rfl, hb_A2, ?_⟩
    simp only [opOf_succ, opOf_zero, Act.put, List.setIfInBounds_toArray, List.set_cons_zero, List.set_cons_succ]
    have hl2 : N1 ≤ 2000000 := by rw [← hps1.length]; exact Nat.le_trans (sen_tz _) (Nat.le_trans HTZ.out (by omega))
    refine wpPath_call (f := 42) (args := #[.slice b1 N1 c1, .agg #[.int .i64 i, .int .i64 k], .bool false]) rfl rfl (fun W => by simp only [opOf_succ, opOf_zero]; go_simp) ?_
    intro A3 hb_A3
    refine (behind5_n b1 _ c1 (sen ls) (i, k) false A3 (hps1.below hb_A3) hl2).mono ?_
    rintro e A4 ⟨b2, N2, c2, rfl, hps, hb_A4⟩
    refine ⟨_, rfl, hb_A4, ?_⟩
    simp only [opOf_succ, opOf_zero, Act.put, List.setIfInBounds_toArray, List.set_cons_zero, List.set_cons_succ]
    have T4 := (T1.on (below_on hb_A1 hb_A2)).on (below_on hb_A3 hb_A4)
    refine wpPath_free (v := .slice b2 N2 c2) rfl rfl (fun _ => rfl) ?_
    simp only [opOf_succ, opOf_zero, Act.put, List.setIfInBounds_toArray, List.set_cons_zero, List.set_cons_succ]
    refine wpPath_end fun w5 hb_w5 => ?_
    rw [bhd_aft] at hps
    have T5 := T4.on hb_w5
    have hps5 := hps.below hb_w5
    have hlen2 := hps5.length
    have hn2 := hps5.le63
    clear hps hps1 hb_w5 T4 hb_A1 hb_A2 hb_A3 hb_A4 T1
    obtain ⟨L, hL⟩ : ∃ L, L = aft (sen ls) (i, k) := ⟨_, rfl⟩
    rw [← hL] at hps5 hlen2
    obtain ⟨k1, hk1⟩ : ∃ k1, k1 = m - 1 := ⟨_, rfl⟩
    have hw : IntKind.i64.wrap ((m : Int) - 1) = (k1 : Int) := by rw [IntKind.wrap_i64]; omega
    have HLR : r = jmp (snV ls past (i, k) L m) := by rw [HR.out, hL]
    have HLR := Lib.hid HLR
    have he5 := end5_any a n c' ls w5 (SrcV.below HS.out T5.below) (by omega)
    obtain ⟨te, hte⟩ : ∃ te, te = lastP ls true := ⟨_, rfl⟩
    rw [show endP ls (ls.length - 1) = te by rw [hte]; rfl] at he5
    have HTE := Lib.hid hte
    clear hL hte
    go_wp2_with fail
    refine he5.mono ?_
    rintro e w6 ⟨rfl, hb_w6⟩
    have T6 := T5.on hb_w6
    have hps6 := hps5.below hb_w6
    clear he5 hb_w6 T5 hps5
    go_upto_region 5 with fail
    obtain ⟨x7, hx7⟩ : ∃ x7, x7 = w6.alloc (.cells #[.int .i64 te.1, .int .i64 te.2] 24) := ⟨_, rfl⟩
    have hA : Below w6.heap.size w6 x7 := by rw [hx7]; exact (Below.refl _ w6).alloc (Nat.le_refl _) _
    have hG := PosAt.new w6 te.1 te.2
    rw [← hx7] at hG ⊢
    have T7 := T6.on hA
    have hG0 := T6.size
    obtain ⟨g, hg⟩ : ∃ g, g = w6.heap.size := ⟨_, rfl⟩
    rw [← hg] at hG hG0 ⊢
    have hps7 := hps6.below hA
    clear hx7 hg hA
    clear T6 hps6
    cases past
    · by_cases hmN : m ≤ N2
      · obtain ⟨bb, oo, rfl, cx, cy, hnc⟩ := hps7.read (m - 1) (by omega)
        obtain ⟨x, hx⟩ : ∃ x : P2, x = L[m - 1]'(by omega) := ⟨_, rfl⟩
        rw [← hx, ← hk1] at cx cy
        have hrq : r = ⟨x.1, x.2, 0, true, -1, true⟩ := by rw [HLR.out]; unfold snV; rw [if_pos (by omega), at_getD (by omega), ← hx]; rfl
        have HRQ := Lib.hid hrq
        have dk : decide ((N2 : Int) < (m : Int)) = false := decide_eq_false (by omega)
        have dk2 : decide (N2 < m) = false := decide_eq_false (by omega)
        have hkn : k1 < N2 := by omega
        have hj := fun W => jump5_any x.1 x.2 W
        have p0 := T7.pos.c0
        have p1 := T7.pos.c1
        have m0 := T7.mv.c0
        have m1 := T7.mv.c1
        have m2 := T7.mv.c2
        have m3 := T7.mv.c3
        have m4 := T7.mv.c4
        have z := T7.mv.z
        clear hrq hx hk1 hps7 hlen2 
        go_wp2_with fail
        refine (hj _).mono ?_
        rintro e w8 ⟨rfl, hb_w8⟩
        have T8 := T7.on hb_w8
        clear p0 p1 m0 m1 m2 m3 m4 z
        have p0 := T8.pos.c0
        have p1 := T8.pos.c1
        have m0 := T8.mv.c0
        have m1 := T8.mv.c1
        have m2 := T8.mv.c2
        have m3 := T8.mv.c3
        have m4 := T8.mv.c4
        have z := T8.mv.z
        clear hj cx cy
        go_wp2
        obtain ⟨hg, hb⟩ := T8.ret x.1 x.2 0 (-1) true
        exact ret_mv (r := ⟨x.1, x.2, 0, true, -1, true⟩) (g := w.heap.size + 1) rfl rfl rfl rfl hg ⟨by rw [HRQ.out], hb⟩
      · have hrq : r = R.no := by rw [HLR.out, snV_no (by omega) (fun hh => by cases hh.2.1)]; rfl
        have HRQ := Lib.hid hrq
        have dk : decide ((N2 : Int) < (m : Int)) = true := decide_eq_true (by omega)
        have dk2 : decide (N2 < m) = true := decide_eq_true (by omega)
        have p0 := T7.pos.c0
        have p1 := T7.pos.c1
        have m0 := T7.mv.c0
        have m1 := T7.mv.c1
        have m2 := T7.mv.c2
        have m3 := T7.mv.c3
        have m4 := T7.mv.c4
        have z := T7.mv.z
        clear hrq
        go_wp2_with fail
        refine (none_any' _).mono ?_
        rintro e w8 ⟨rfl, hb_w8⟩
        have T8 := T7.on hb_w8
        clear p0 p1 m0 m1 m2 m3 m4 z
        have p0 := T8.pos.c0
        have p1 := T8.pos.c1
        have m0 := T8.mv.c0
        have m1 := T8.mv.c1
        have m2 := T8.mv.c2
        have m3 := T8.mv.c3
        have m4 := T8.mv.c4
        have z := T8.mv.z
        go_wp2
        obtain ⟨hg, hb⟩ := T8.ret 0 0 0 0 false
        exact ret_mv (r := R.no) (g := w.heap.size + 1) rfl rfl rfl rfl hg ⟨by rw [HRQ.out], hb⟩
    · by_cases hmN1 : N2 = k1
      · have d1 : ((N2 : Int) == (k1 : Int)) = true := by rw [beq_iff_eq]; omega
        have d2 : (N2 == k1) = true := by rw [beq_iff_eq]; omega
        have hkN : k1 = N2 := hmN1.symm
        have p0 := T7.pos.c0
        have p1 := T7.pos.c1
        have g0 := hG.c0
        have g1 := hG.c1
        have hls := So.less5_any i k te.1 te.2 x7
        have HMN := Lib.hid hmN1
        clear hmN1 hkN
        cases hlp : lp (i, k) te
        · rw [show So.lt i k te.1 te.2 = false from hlp] at hls
          have hrq : r = R.no := by
            have := HMN.out
            rw [HLR.out, snV_no (by omega) (fun hh => by rw [← HTE.out, hlp] at hh; cases hh.2.2)]; rfl
          have HRQ := Lib.hid hrq
          have dk : decide ((N2 : Int) < (m : Int)) = true := decide_eq_true (by have := HMN.out; omega)
          have dk2 : decide (N2 < m) = true := decide_eq_true (by have := HMN.out; omega)
          have HK1 := Lib.hid hk1
          clear hlp hrq hk1
          go_wp2_with fail
          refine hls.mono ?_
          rintro e w7 ⟨rfl, hb_w7⟩
          have T8 := T7.on hb_w7
          clear p0 p1 g0 g1 hls hb_w7
          go_wp2_with fail
          refine (none_any' _).mono ?_
          rintro e w8 ⟨rfl, hb_w8⟩
          have T9 := T8.on hb_w8
          have p0 := T9.pos.c0
          have p1 := T9.pos.c1
          have m0 := T9.mv.c0
          have m1 := T9.mv.c1
          have m2 := T9.mv.c2
          have m3 := T9.mv.c3
          have m4 := T9.mv.c4
          have z := T9.mv.z
          go_wp2
          obtain ⟨hg, hb⟩ := T9.ret 0 0 0 0 false
          exact ret_mv (r := R.no) (g := w.heap.size + 1) rfl rfl rfl rfl hg ⟨by rw [HRQ.out], hb⟩
        · rw [show So.lt i k te.1 te.2 = true from hlp] at hls
          have hrq : r = ⟨te.1, te.2, 0, true, -1, true⟩ := by
            have := HMN.out
            rw [HLR.out, snV_end (by omega) rfl (by rw [← HTE.out]; exact hlp), ← HTE.out]; rfl
          have HRQ := Lib.hid hrq
          have HK1 := Lib.hid hk1
          clear hlp hrq hk1
          go_wp2_with fail
          refine hls.mono ?_
          rintro e w7 ⟨rfl, hb_w7⟩
          have T8 := T7.on hb_w7
          have hG8 := hG.below hb_w7 hG.lt
          clear p0 p1 g0 g1 hls hb_w7
          have g0 := hG8.c0
          have g1 := hG8.c1
          go_wp2_with fail
          refine (jump5_any te.1 te.2 _).mono ?_
          rintro e w8 ⟨rfl, hb_w8⟩
          have T9 := T8.on hb_w8
          have p0 := T9.pos.c0
          have p1 := T9.pos.c1
          have m0 := T9.mv.c0
          have m1 := T9.mv.c1
          have m2 := T9.mv.c2
          have m3 := T9.mv.c3
          have m4 := T9.mv.c4
          have z := T9.mv.z
          clear g0 g1
          go_wp2
          obtain ⟨hg, hb⟩ := T9.ret te.1 te.2 0 (-1) true
          exact ret_mv (r := ⟨te.1, te.2, 0, true, -1, true⟩) (g := w.heap.size + 1) rfl rfl rfl rfl hg ⟨by rw [HRQ.out], hb⟩
      · have d1 : ((N2 : Int) == (k1 : Int)) = false := by rw [beq_eq_false_iff_ne]; omega
        have d2 : (N2 == k1) = false := by rw [beq_eq_false_iff_ne]; omega
        by_cases hmN : m ≤ N2
        · obtain ⟨bb, oo, rfl, cx, cy, hnc⟩ := hps7.read (m - 1) (by omega)
          obtain ⟨x, hx⟩ : ∃ x : P2, x = L[m - 1]'(by omega) := ⟨_, rfl⟩
          rw [← hx, ← hk1] at cx cy
          have hrq : r = ⟨x.1, x.2, 0, true, -1, true⟩ := by rw [HLR.out]; unfold snV; rw [if_pos (by omega), at_getD (by omega), ← hx]; rfl
          have HRQ := Lib.hid hrq
          have dk : decide ((N2 : Int) < (m : Int)) = false := decide_eq_false (by omega)
          have dk2 : decide (N2 < m) = false := decide_eq_false (by omega)
          have hkn : k1 < N2 := by omega
          have hj := fun W => jump5_any x.1 x.2 W
          have p0 := T7.pos.c0
          have p1 := T7.pos.c1
          have m0 := T7.mv.c0
          have m1 := T7.mv.c1
          have m2 := T7.mv.c2
          have m3 := T7.mv.c3
          have m4 := T7.mv.c4
          have z := T7.mv.z
          clear hrq hx hk1 hps7 hlen2 
          go_wp2_with fail
          refine (hj _).mono ?_
          rintro e w8 ⟨rfl, hb_w8⟩
          have T8 := T7.on hb_w8
          clear p0 p1 m0 m1 m2 m3 m4 z
          have p0 := T8.pos.c0
          have p1 := T8.pos.c1
          have m0 := T8.mv.c0
          have m1 := T8.mv.c1
          have m2 := T8.mv.c2
          have m3 := T8.mv.c3
          have m4 := T8.mv.c4
          have z := T8.mv.z
          clear hj cx cy
          go_wp2
          obtain ⟨hg, hb⟩ := T8.ret x.1 x.2 0 (-1) true
          exact ret_mv (r := ⟨x.1, x.2, 0, true, -1, true⟩) (g := w.heap.size + 1) rfl rfl rfl rfl hg ⟨by rw [HRQ.out], hb⟩
        · have hrq : r = R.no := by rw [HLR.out, snV_no (by omega) (fun hh => by omega)]; rfl
          have HRQ := Lib.hid hrq
          have dk : decide ((N2 : Int) < (m : Int)) = true := decide_eq_true (by omega)
          have dk2 : decide (N2 < m) = true := decide_eq_true (by omega)
          have p0 := T7.pos.c0
          have p1 := T7.pos.c1
          have m0 := T7.mv.c0
          have m1 := T7.mv.c1
          have m2 := T7.mv.c2
          have m3 := T7.mv.c3
          have m4 := T7.mv.c4
          have z := T7.mv.z
          clear hrq
          go_wp2_with fail
          refine (none_any' _).mono ?_
          rintro e w8 ⟨rfl, hb_w8⟩
          have T8 := T7.on hb_w8
          clear p0 p1 m0 m1 m2 m3 m4 z
          have p0 := T8.pos.c0
          have p1 := T8.pos.c1
          have m0 := T8.mv.c0
          have m1 := T8.mv.c1
          have m2 := T8.mv.c2
          have m3 := T8.mv.c3
          have m4 := T8.mv.c4
          have z := T8.mv.z
          go_wp2
          obtain ⟨hg, hb⟩ := T8.ret 0 0 0 0 false
          exact ret_mv (r := R.no) (g := w.heap.size + 1) rfl rfl rfl rfl hg ⟨by rw [HRQ.out], hb⟩
  · have hr : snR ls l c nn past = R.no := ifm_no hpk
    rw [hr]
    obtain ⟨X, hX⟩ : ∃ X, X = ((w.alloc (.cells #[.int .i64 l, .int .i64 c] 24)).alloc (.cells #[.int .i64 0, .int .i64 0, .int .i64 0, .bool false, .int .i64 0] 32)) := ⟨_, rfl⟩
    have hT : Two w X l c := by rw [hX]; exact Two.new w l c
    have HX := Lib.hid hX
    have h1 := may_any a n c' ls l c nn X (SrcV.below h hT.below)
    rw [decide_eq_false hpk] at h1
    have p0 := hT.pos.c0
    have p1 := hT.pos.c1
    have m0 := hT.mv.c0
    have m1 := hT.mv.c1
    have m2 := hT.mv.c2
    have m3 := hT.mv.c3
    have m4 := hT.mv.c4
    have z := hT.mv.z
    clear hr hX hpk h
    go_enter Try.func23, Try.ntmps23
    go_wp2_with fail
    rw [← HX.out]
    refine h1.mono ?_
    rintro e w1 ⟨rfl, hb_w1⟩
    have T1 := hT.on hb_w1
    clear p0 p1 m0 m1 m2 m3 m4 z h1
    have p0 := T1.pos.c0
    have p1 := T1.pos.c1
    have m0 := T1.mv.c0
    have m1 := T1.mv.c1
    have m2 := T1.mv.c2
    have m3 := T1.mv.c3
    have m4 := T1.mv.c4
    have z := T1.mv.z
    go_wp2_with fail
    refine (none_any' _).mono ?_
    rintro e w2 ⟨rfl, hb_w2⟩
    have T2 := T1.on hb_w2
    clear p0 p1 m0 m1 m2 m3 m4 z
    have p0 := T2.pos.c0
    have p1 := T2.pos.c1
    have m0 := T2.mv.c0
    have m1 := T2.mv.c1
    have m2 := T2.mv.c2
    have m3 := T2.mv.c3
    have m4 := T2.mv.c4
    have z := T2.mv.z
    go_wp2
    obtain ⟨hg, hb⟩ := T2.ret 0 0 0 0 false
    exact ret_mv (r := R.no) (g := w.heap.size + 1) rfl rfl rfl rfl hg ⟨rfl, hb⟩


end Go.Proofs.Ytpdbfdhfonfbeaa.Pa
