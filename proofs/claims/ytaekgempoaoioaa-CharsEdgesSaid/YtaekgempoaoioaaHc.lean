/-
  Package chars and the document: Column.
-/
import Derived.Test.YtaekgempoaoioaaHl
set_option linter.unusedVariables false
set_option linter.unusedSimpArgs false
set_option maxRecDepth 100000
namespace Go.Proofs.Ytaekgempoaoioaa.Ch
open Go Go.RowKit Go.Proofs.Ytaekgempoaoioaa.Vk Go.Proofs.Ytaekgempoaoioaa.Str Go.Proofs.Ytaekgempoaoioaa.Ln Go.Proofs.Ytaekgempoaoioaa.Cl Go.Proofs.Ytaekgempoaoioaa.Mv
attribute [local go_sem] Oper.semAt_some
def colR (ls : List ByteArray) (l c k : Int) : R := if Plc ls l c ∧ 1 ≤ k then ⟨l, min (min k 1073741824 - 1) ((lineAt ls l.toNat).size - 1 : Nat), 0, false, min k 1073741824 - 1, true⟩ else R.no

theorem col_any (a : Option Addr) (n c' : Nat) (ls : List ByteArray) (l c : Int) (k : Int) (w : World) (h : Ss w a n c' ls) (hs : ∀ s ∈ ls, s.size ≤ 140737488355328) :
    Calls Try.prog 19 #[.slice a n c', .agg #[.int .i64 l, .int .i64 c], .int .i64 k] w fun e w' => e = .returned ((colR ls l c k)).v ∧ Below w.heap.size w w' := by
  obtain ⟨X, hX⟩ : ∃ X, X = ((w.alloc (.cells #[.int .i64 l, .int .i64 c] 24)).alloc (.cells #[.int .i64 0, .int .i64 0, .int .i64 0, .bool false, .int .i64 0] 32)) := ⟨_, rfl⟩
  have hT : Two w X l c := by rw [hX]; exact Two.new w l c
  have HX := Lib.hid hX
  have h1 := inside_any a n c' ls l c X (SrcV.below h hT.below) hs
  have p0 := hT.pos.c0
  have p1 := hT.pos.c1
  have m0 := hT.mv.c0
  have m1 := hT.mv.c1
  have m2 := hT.mv.c2
  have m3 := hT.mv.c3
  have m4 := hT.mv.c4
  have z := hT.mv.z
  have hlen := h.length
  have hn := h.le63
  by_cases hp : Plc ls l c
  · rw [decide_eq_true hp] at h1
    by_cases hk : 1 ≤ k
    · have hr : (colR ls l c k) = ⟨l, min (min k 1073741824 - 1) ((lineAt ls l.toNat).size - 1 : Nat), 0, false, min k 1073741824 - 1, true⟩ := if_pos ⟨hp, hk⟩
      rw [hr]
      obtain ⟨i, m, rfl, rfl, hi, hm⟩ := hp.nat
      obtain ⟨b, o, rfl, hcell, hnc, _⟩ := h.read i hi
      have hlt := lineAt_get hi
      rw [← hlt] at hcell
      have hsz := hs (ls[i]'hi) (List.getElem_mem _)
      rw [← hlt] at hsz
      rw [Int.toNat_natCast]
      rw [hlen] at hi
      have h4 := fun W (hW : Below w.heap.size w W) => end_any _ n c' ls i false W (SrcV.below h hW) hs hi
      clear hr hp h hs hX hlt
      generalize lineAt ls i = s at *
      have h2 := fun W => counted_any k W
      generalize hM : min k 1073741824 = M at *
      have e1 : IntKind.i64.wrap (M - 1) = M - 1 := by rw [IntKind.wrap_i64]; omega
      obtain ⟨N, hN⟩ : ∃ N, N = M - 1 := ⟨_, rfl⟩
      rw [← hN] at e1 ⊢
      obtain ⟨T, hTT⟩ : ∃ T : Nat, T = s.size - 1 := ⟨_, rfl⟩
      obtain ⟨E, hE⟩ : ∃ E, E = min N (T : Int) := ⟨_, rfl⟩
      have e2 : (if (T : Int) < N then (T : Int) else N) = E := by omega
      have e3 : min N (T : Int) = E := hE.symm
      have ht : top s false = T := by unfold top; rw [if_neg (by decide), hTT]
      rw [ht] at h4
      have h5 := fun W => exclusive_any i E W
      rw [← hTT, e3]
      have hk1 : ¬ k < 1 := by omega
      have e4 : M - 1 = N := hN.symm
      clear hk hE hM hTT hN ht
      go_enter Try.func19, Try.ntmps19
      go_wp2_with fail
      rw [← HX.out]
      refine (h1).mono ?_
      rintro e w1 ⟨rfl, hb_w1⟩
      have hT1 := hT.on hb_w1
      clear p0 p1 m0 m1 m2 m3 m4 z h1
      have p0 := hT1.pos.c0
      have p1 := hT1.pos.c1
      have m0 := hT1.mv.c0
      have m1 := hT1.mv.c1
      have m2 := hT1.mv.c2
      have m3 := hT1.mv.c3
      have m4 := hT1.mv.c4
      have z := hT1.mv.z
      have hc1 := cell_later (hT.below.trans (hb_w1.mono hT.below.size)) hcell
      clear hT hcell
      go_wp2_with fail
      refine (h2 _).mono ?_
      rintro e w' ⟨rfl, rfl⟩
      clear h2
      go_wp2_with fail
      have F_p0 := fun (C : World → Prop) (hC : Grows w1 C) (y : In C) => hC.cell p0 y
      have F_p1 := fun (C : World → Prop) (hC : Grows w1 C) (y : In C) => hC.cell p1 y
      have F_hc1 := fun (C : World → Prop) (hC : Grows w1 C) (y : In C) => hC.cell hc1 y
      clear p0 p1 m0 m1 m2 m3 m4 z
      refine wp_region_seg [0, 1, 2, 3, 4, 5, 6, 7, 8] [(9, 1), (10, 3)] (by kernel_rfl) (by kernel_rfl) 34 rfl (by kernel_rfl) ?_
      simp only [List.map_cons, List.map_nil, opOf_succ, opOf_zero]
      apply Exists.intro
      refine ⟨fun C hC => ?_, ?_⟩
      · haveI hI := hC.one
        have f_p0 := F_p0 C hC
        have f_p1 := F_p1 C hC
        have f_hc1 := F_hc1 C hC
        have g4 := fun y : In C => h4 y.W (below_on hT1.below (hC.below _ y.isIn))
        have g5 := fun y : In C => h5 y.W
        repeat (go_big_quiet_step (first | (go_at_call 35; exact Calls.in_of hC (g4 _)) | (go_at_call 29; exact Calls.in_of hC (g5 _))))
        exact wpQuiet_nil rfl
      refine wpPath_make rfl fun w0 hb_w0 => ⟨_, _, rfl, run_mv w0, (Below.refl _ w0).alloc (Nat.le_refl _) _, ?_⟩
      simp only [opOf_succ, opOf_zero, Act.put, List.setIfInBounds_toArray, List.set_cons_zero, List.set_cons_succ]
      refine wpPath_store rfl fun w00 hb_w00 => ?_
      have hV := (MvAt.new w0 0 0 0 0 false).below hb_w00 (by simp)
      have hV2 := hV.put i E 0 (-1) false
      have hg0 : w.heap.size + 2 ≤ w0.heap.size := (hT1.on hb_w0).size
      have hT3 := ((hT1.on hb_w0).on (below_on ((Below.refl _ w0).alloc (Nat.le_refl _) _) hb_w00)).put hg0 i E 0 (-1) false
      refine ⟨_, rfl, run_store_mv hV, ?_⟩
      simp only [opOf_succ, opOf_zero, Act.put, List.setIfInBounds_toArray, List.set_cons_zero, List.set_cons_succ]
      refine wpPath_end fun w3 hb_w3 => ?_
      have hT3 := hT3.on hb_w3
      have hT3v := hV2.below hb_w3 hV2.lt
      clear F_p0 F_p1 F_hc1 hV hV2
      have p0 := hT3.pos.c0
      have p1 := hT3.pos.c1
      have m0 := hT3.mv.c0
      have m1 := hT3.mv.c1
      have m2 := hT3.mv.c2
      have m3 := hT3.mv.c3
      have m4 := hT3.mv.c4
      have z := hT3.mv.z
      have v0 := hT3v.c0
      have v1 := hT3v.c1
      have v2 := hT3v.c2
      have v3 := hT3v.c3
      have v4 := hT3v.c4
      have zv := hT3v.z
      clear h4 h5
      have hV3 := hT3v
      clear p0 p1 m0 m1 m2 m3 m4 z
      have hT4 := hT3.set hg0 4 (.int .i64 N)
      have hV4 := hV3.set4 N
      go_upto_region 6 with fail
      obtain ⟨w4, hw4⟩ : ∃ w4, w4 = w3.setCell ⟨w0.heap.size, 4, none⟩ (.int .i64 N) := ⟨_, rfl⟩
      rw [← hw4] at hT4 hV4 ⊢
      clear v0 v1 v2 v3 v4 zv hw4
      have v0 := hV4.c0
      have v1 := hV4.c1
      have v2 := hV4.c2
      have v3 := hV4.c3
      have v4 := hV4.c4
      have zv := hV4.z
      have p0 := hT4.pos.c0
      have p1 := hT4.pos.c1
      have m0 := hT4.mv.c0
      have m1 := hT4.mv.c1
      have m2 := hT4.mv.c2
      have m3 := hT4.mv.c3
      have m4 := hT4.mv.c4
      have z := hT4.mv.z
      go_wp2
      obtain ⟨hg, hb⟩ := hT4.ret i E 0 N false
      exact ret_mv (r := ⟨i, E, 0, false, N, true⟩) (g := w.heap.size + 1) rfl rfl rfl rfl hg ⟨rfl, hb⟩
    · have hr : (colR ls l c k) = R.no := if_neg fun hh => hk hh.2
      rw [hr]
      have hk1 : k < 1 := by omega
      clear hr h hs hX hp hk
      go_enter Try.func19, Try.ntmps19
      go_wp2_with fail
      rw [← HX.out]
      refine (h1).mono ?_
      rintro e w1 ⟨rfl, hb_w1⟩
      have hT1 := hT.on hb_w1
      clear p0 p1 m0 m1 m2 m3 m4 z h1 hT
      have p0 := hT1.pos.c0
      have p1 := hT1.pos.c1
      have m0 := hT1.mv.c0
      have m1 := hT1.mv.c1
      have m2 := hT1.mv.c2
      have m3 := hT1.mv.c3
      have m4 := hT1.mv.c4
      have z := hT1.mv.z
      go_wp2
      obtain ⟨hg, hb⟩ := hT1.ret 0 0 0 0 false
      exact ret_mv (r := R.no) (g := w.heap.size + 1) rfl rfl rfl rfl hg ⟨rfl, hb⟩
  · rw [decide_eq_false hp] at h1
    have hr : (colR ls l c k) = R.no := if_neg fun hh => hp hh.1
    rw [hr]
    clear hr h hs hX hp
    go_enter Try.func19, Try.ntmps19
    go_wp2_with fail
    rw [← HX.out]
    refine (h1).mono ?_
    rintro e w1 ⟨rfl, hb_w1⟩
    have hT1 := hT.on hb_w1
    clear p0 p1 m0 m1 m2 m3 m4 z h1 hT
    have p0 := hT1.pos.c0
    have p1 := hT1.pos.c1
    have m0 := hT1.mv.c0
    have m1 := hT1.mv.c1
    have m2 := hT1.mv.c2
    have m3 := hT1.mv.c3
    have m4 := hT1.mv.c4
    have z := hT1.mv.z
    go_wp2
    obtain ⟨hg, hb⟩ := hT1.ret 0 0 0 0 false
    exact ret_mv (r := R.no) (g := w.heap.size + 1) rfl rfl rfl rfl hg ⟨rfl, hb⟩

theorem col5_any (a : Option Addr) (n c' : Nat) (ls : List ByteArray) (l c : Int) (k : Int) (w : World) (h : Ss w a n c' ls) (hs : ∀ s ∈ ls, s.size ≤ 140737488355328) :
    Calls Try.prog 20 #[.slice a n c', .agg #[.int .i64 l, .int .i64 c], .int .i64 k] w fun e w' => e = .returned ((colR ls l c k)).v ∧ Below w.heap.size w w' := by
  obtain ⟨X, hX⟩ : ∃ X, X = ((w.alloc (.cells #[.int .i64 l, .int .i64 c] 24)).alloc (.cells #[.int .i64 0, .int .i64 0, .int .i64 0, .bool false, .int .i64 0] 32)) := ⟨_, rfl⟩
  have hT : Two w X l c := by rw [hX]; exact Two.new w l c
  have HX := Lib.hid hX
  have h1 := may_any a n c' ls l c k X (SrcV.below h hT.below)
  have p0 := hT.pos.c0
  have p1 := hT.pos.c1
  have m0 := hT.mv.c0
  have m1 := hT.mv.c1
  have m2 := hT.mv.c2
  have m3 := hT.mv.c3
  have m4 := hT.mv.c4
  have z := hT.mv.z
  have hlen := h.length
  have hn := h.le63
  by_cases hp' : Plc ls l c ∧ 1 ≤ k
  · rw [decide_eq_true hp'] at h1
    obtain ⟨hp, hk⟩ := hp'
    have hr : (colR ls l c k) = ⟨l, min (min k 1073741824 - 1) ((lineAt ls l.toNat).size - 1 : Nat), 0, false, min k 1073741824 - 1, true⟩ := if_pos ⟨hp, hk⟩
    rw [hr]
    obtain ⟨i, m, rfl, rfl, hi, hm⟩ := hp.nat
    obtain ⟨b, o, rfl, hcell, hnc, _⟩ := h.read i hi
    have hlt := lineAt_get hi
    rw [← hlt] at hcell
    have hsz := hs (ls[i]'hi) (List.getElem_mem _)
    rw [← hlt] at hsz
    rw [Int.toNat_natCast]
    rw [hlen] at hi
    clear hr hp h hs hX hlt
    generalize lineAt ls i = s at *
    have h2 := fun W => capped_any k W
    generalize hM : min k 1073741824 = M at *
    have e1 : IntKind.i64.wrap (M - 1) = M - 1 := by rw [IntKind.wrap_i64]; omega
    obtain ⟨N, hN⟩ : ∃ N, N = M - 1 := ⟨_, rfl⟩
    rw [← hN] at e1 ⊢
    obtain ⟨T, hTT⟩ : ∃ T : Nat, T = s.size - 1 := ⟨_, rfl⟩
    obtain ⟨E, hE⟩ : ∃ E, E = min N (T : Int) := ⟨_, rfl⟩
    have e2 : (if (T : Int) < N then (T : Int) else N) = E := by omega
    have e3 : min N (T : Int) = E := hE.symm

    have h5 := fun W => last5_any s W (by omega)
    rw [← hTT, e3]
    rw [← hTT] at h5
    have e4 : M - 1 = N := hN.symm
    clear hk hE hM hTT hN 
    go_enter Try.func20, Try.ntmps20
    go_wp2_with fail
    rw [← HX.out]
    refine (h1).mono ?_
    rintro e w1 ⟨rfl, hb_w1⟩
    have hT1 := hT.on hb_w1
    clear p0 p1 m0 m1 m2 m3 m4 z h1
    have p0 := hT1.pos.c0
    have p1 := hT1.pos.c1
    have m0 := hT1.mv.c0
    have m1 := hT1.mv.c1
    have m2 := hT1.mv.c2
    have m3 := hT1.mv.c3
    have m4 := hT1.mv.c4
    have z := hT1.mv.z
    have hc1 := cell_later (hT.below.trans (hb_w1.mono hT.below.size)) hcell
    clear hT hcell
    go_wp2_with fail
    refine (h2 _).mono ?_
    rintro e w' ⟨rfl, rfl⟩
    clear h2
    have g5 := fun z : Gr w1 => h5 z.W
    clear h5
    go_wp2_with fail
    have f_p0 := fun z : Gr w1 => z.cell p0
    have f_p1 := fun z : Gr w1 => z.cell p1
    have f_hc1 := fun z : Gr w1 => z.cell hc1
    clear p0 p1 m0 m1 m2 m3 m4 z
    refine wp_region_grow_tail 15 (by kernel_rfl) (by kernel_rfl) ?_
    simp only [List.take_succ_cons, List.take_zero, List.drop_succ_cons, List.drop_zero]
    repeat (go_big_quiet_step (first | (go_at_call 36; exact Calls.grow_of_same (g5 _))))
    refine wpQuiet_nil ?_
    rintro w2 ⟨⟨_, hb_w2⟩, rfl⟩
    have hT2 := hT1.on hb_w2
    clear f_p0 f_p1 f_hc1
    have p0 := hT2.pos.c0
    have p1 := hT2.pos.c1
    have m0 := hT2.mv.c0
    have m1 := hT2.mv.c1
    have m2 := hT2.mv.c2
    have m3 := hT2.mv.c3
    have m4 := hT2.mv.c4
    have z := hT2.mv.z
    go_wp2
    obtain ⟨hg, hb⟩ := hT2.ret i E 0 N false
    exact ret_mv (r := ⟨i, E, 0, false, N, true⟩) (g := w.heap.size + 1) rfl rfl rfl rfl hg ⟨rfl, hb⟩
  · rw [decide_eq_false hp'] at h1
    have hr : (colR ls l c k) = R.no := if_neg fun hh => hp' ⟨hh.1, hh.2⟩
    rw [hr]
    clear hr h hs hX hp'
    go_enter Try.func20, Try.ntmps20
    go_wp2_with fail
    rw [← HX.out]
    refine (h1).mono ?_
    rintro e w1 ⟨rfl, hb_w1⟩
    have hT1 := hT.on hb_w1
    clear p0 p1 m0 m1 m2 m3 m4 z h1 hT
    have p0 := hT1.pos.c0
    have p1 := hT1.pos.c1
    have m0 := hT1.mv.c0
    have m1 := hT1.mv.c1
    have m2 := hT1.mv.c2
    have m3 := hT1.mv.c3
    have m4 := hT1.mv.c4
    have z := hT1.mv.z
    go_wp2_with fail
    refine (none_any _).mono ?_
    rintro e w2 ⟨rfl, hb_w2⟩
    have hT2 := hT1.on hb_w2
    clear p0 p1 m0 m1 m2 m3 m4 z
    have p0 := hT2.pos.c0
    have p1 := hT2.pos.c1
    have m0 := hT2.mv.c0
    have m1 := hT2.mv.c1
    have m2 := hT2.mv.c2
    have m3 := hT2.mv.c3
    have m4 := hT2.mv.c4
    have z := hT2.mv.z
    go_wp2
    obtain ⟨hg, hb⟩ := hT2.ret 0 0 0 0 false
    exact ret_mv (r := R.no) (g := w.heap.size + 1) rfl rfl rfl rfl hg ⟨rfl, hb⟩

end Go.Proofs.Ytaekgempoaoioaa.Ch
