/-
  Package chars and the document: Right.
-/
import Derived.Test.YtaekgempoaoioaaHl
set_option linter.unusedVariables false
set_option linter.unusedSimpArgs false
set_option maxRecDepth 100000
namespace Go.Proofs.Ytaekgempoaoioaa.Ch
open Go Go.RowKit Go.Proofs.Ytaekgempoaoioaa.Vk Go.Proofs.Ytaekgempoaoioaa.Str Go.Proofs.Ytaekgempoaoioaa.Ln Go.Proofs.Ytaekgempoaoioaa.Cl Go.Proofs.Ytaekgempoaoioaa.Mv
attribute [local go_sem] Oper.semAt_some
set_option maxHeartbeats 1000000

def rightR (ls : List ByteArray) (l c k : Int) (past : Bool) : R := if Plc ls l c ∧ 1 ≤ k ∧ c < (top (lineAt ls l.toNat) past : Nat) then R.to l (min (c + min k 1073741824) (top (lineAt ls l.toNat) past : Nat)) else R.no

theorem right_any (a : Option Addr) (n c' : Nat) (ls : List ByteArray) (l c : Int) (k : Int) (past : Bool) (w : World) (h : Ss w a n c' ls) (hs : ∀ s ∈ ls, s.size ≤ 140737488355328) :
    Calls Try.prog 15 #[.slice a n c', .agg #[.int .i64 l, .int .i64 c], .int .i64 k, .bool past] w fun e w' => e = .returned ((rightR ls l c k past)).v ∧ Below w.heap.size w w' := by
  obtain ⟨X, hX⟩ : ∃ X, X = ((w.alloc (.cells #[.int .i64 l, .int .i64 c] 24)).alloc (.cells #[.int .i64 0, .int .i64 0, .int .i64 0, .bool false, .int .i64 0] 32)) := ⟨_, rfl⟩
  have hT : Two w X l c := by rw [hX]; exact Two.new w l c
  have HX := Lib.hid hX
  have h1 := inside_any a n c' ls l c X (SrcV.below h hT.below) hs
  have p0 := hT.pos.c0
  have p1 := hT.pos.c1
  have m0 := hT.mv.c0
  have m1 := hT.mv.c1
  have m2 := hT.mv.c2
  have m3 := hT.mv.c3
  have m4 := hT.mv.c4
  have z := hT.mv.z
  have hlen := h.length
  have hn := h.le63
  by_cases hp : Plc ls l c
  · rw [decide_eq_true hp] at h1
    by_cases hk : 1 ≤ k
    · obtain ⟨i, m, rfl, rfl, hi, hm⟩ := hp.nat
      obtain ⟨b, o, rfl, hcell, hnc, _⟩ := h.read i hi
      have hlt := lineAt_get hi
      rw [← hlt] at hcell
      have hsz := hs (ls[i]'hi) (List.getElem_mem _)
      rw [← hlt] at hsz
      rw [hlen] at hi
      have h4 := fun W (hW : Below w.heap.size w W) => end_any _ n c' ls i past W (SrcV.below h hW) hs hi
      have hd : (rightR ls i m k past) = if (m : Int) < (top (lineAt ls i) past : Nat) then R.to i (min (m + min k 1073741824) (top (lineAt ls i) past : Nat)) else R.no := by
        unfold rightR
        rw [Int.toNat_natCast]
        by_cases hh : (m : Int) < (top (lineAt ls i) past : Nat)
        · rw [if_pos ⟨hp, hk, hh⟩, if_pos hh]
        · rw [if_neg (fun h => hh h.2.2), if_neg hh]
      rw [hd]
      have htop : top (lineAt ls i) past ≤ 140737488355328 := by unfold top; split <;> omega
      clear hd hp h hs hX hlt
      generalize lineAt ls i = s at *
      generalize top s past = T at *
      have h2 := fun W => counted_any k W
      have hk1 : ¬ k < 1 := by omega
      by_cases ht : (m : Int) < (T : Nat)
      · rw [if_pos ht]
        generalize hM : min k 1073741824 = M at *
        have e0 : IntKind.i64.wrap ((T : Int) - (m : Int)) = (T : Int) - (m : Int) := by rw [IntKind.wrap_i64]; omega
        obtain ⟨D, hD⟩ : ∃ D, D = min M ((T : Int) - (m : Int)) := ⟨_, rfl⟩
        obtain ⟨E, hE⟩ : ∃ E, E = min (m + M) (T : Int) := ⟨_, rfl⟩
        have e1 : (if (T : Int) - (m : Int) < M then (T : Int) - (m : Int) else M) = D := by omega
        have e2 : min M ((T : Int) - (m : Int)) = D := hD.symm
        have e3 : IntKind.i64.wrap ((m : Int) + D) = E := by rw [IntKind.wrap_i64]; omega
        have h3 := fun W => exclusive_any i E W
        rw [← hE]
        have ht1 : ¬ T ≤ m := by omega
        clear hk hM hD hE ht
        go_enter Try.func15, Try.ntmps15
        go_wp2_with fail
        rw [← HX.out]
        refine (h1).mono ?_
        rintro e w1 ⟨rfl, hb_w1⟩
        have hT1 := hT.on hb_w1
        clear p0 p1 m0 m1 m2 m3 m4 z h1
        have p0 := hT1.pos.c0
        have p1 := hT1.pos.c1
        have m0 := hT1.mv.c0
        have m1 := hT1.mv.c1
        have m2 := hT1.mv.c2
        have m3 := hT1.mv.c3
        have m4 := hT1.mv.c4
        have z := hT1.mv.z
        go_wp2_with fail
        refine (h4 _ hT1.below).mono ?_
        rintro e w2 ⟨rfl, hb_w2⟩
        have hT2 := hT1.on hb_w2
        clear p0 p1 m0 m1 m2 m3 m4 z h4 hT hT1
        have p0 := hT2.pos.c0
        have p1 := hT2.pos.c1
        have m0 := hT2.mv.c0
        have m1 := hT2.mv.c1
        have m2 := hT2.mv.c2
        have m3 := hT2.mv.c3
        have m4 := hT2.mv.c4
        have z := hT2.mv.z
        have g2 := fun z : Gr w2 => h2 z.W
        have g3 := fun z : Gr w2 => h3 z.W
        clear h2 h3
        go_wp2_with fail
        have f_p0 := fun z : Gr w2 => z.cell p0
        have f_p1 := fun z : Gr w2 => z.cell p1
        clear p0 p1 m0 m1 m2 m3 m4 z
        refine wp_region_grow_tail 13 (by kernel_rfl) (by kernel_rfl) ?_
        simp only [List.take_succ_cons, List.take_zero, List.drop_succ_cons, List.drop_zero]
        repeat (go_big_quiet_step (first | (go_at_call 30; exact Calls.grow_of_same (g2 _)) | (go_at_call 29; exact Calls.grow_of (g3 _))))
        refine wpQuiet_nil ?_
        rintro w3 ⟨⟨_, hb_w3⟩, rfl⟩
        have hT3 := hT2.on hb_w3
        clear f_p0 f_p1
        have p0 := hT3.pos.c0
        have p1 := hT3.pos.c1
        have m0 := hT3.mv.c0
        have m1 := hT3.mv.c1
        have m2 := hT3.mv.c2
        have m3 := hT3.mv.c3
        have m4 := hT3.mv.c4
        have z := hT3.mv.z
        clear g2 g3
        go_wp2
        obtain ⟨hg, hb⟩ := hT3.ret i E 0 (-1) false
        exact ret_mv (r := (R.to i E)) (g := w.heap.size + 1) rfl rfl rfl rfl hg ⟨rfl, hb⟩
      · rw [if_neg ht]
        have ht1 : T ≤ m := by omega
        clear hk ht h2
        go_enter Try.func15, Try.ntmps15
        go_wp2_with fail
        rw [← HX.out]
        refine (h1).mono ?_
        rintro e w1 ⟨rfl, hb_w1⟩
        have hT1 := hT.on hb_w1
        clear p0 p1 m0 m1 m2 m3 m4 z h1
        have p0 := hT1.pos.c0
        have p1 := hT1.pos.c1
        have m0 := hT1.mv.c0
        have m1 := hT1.mv.c1
        have m2 := hT1.mv.c2
        have m3 := hT1.mv.c3
        have m4 := hT1.mv.c4
        have z := hT1.mv.z
        go_wp2_with fail
        refine (h4 _ hT1.below).mono ?_
        rintro e w2 ⟨rfl, hb_w2⟩
        have hT2 := hT1.on hb_w2
        clear p0 p1 m0 m1 m2 m3 m4 z h4 hT hT1
        have p0 := hT2.pos.c0
        have p1 := hT2.pos.c1
        have m0 := hT2.mv.c0
        have m1 := hT2.mv.c1
        have m2 := hT2.mv.c2
        have m3 := hT2.mv.c3
        have m4 := hT2.mv.c4
        have z := hT2.mv.z
        go_wp2
        obtain ⟨hg, hb⟩ := hT2.ret 0 0 0 0 false
        exact ret_mv (r := R.no) (g := w.heap.size + 1) rfl rfl rfl rfl hg ⟨rfl, hb⟩
    · have hr : (rightR ls l c k past) = R.no := if_neg fun hh => hk hh.2.1
      rw [hr]
      have hk1 : k < 1 := by omega
      clear hr h hs hX hp hk
      go_enter Try.func15, Try.ntmps15
      go_wp2_with fail
      rw [← HX.out]
      refine (h1).mono ?_
      rintro e w1 ⟨rfl, hb_w1⟩
      have hT1 := hT.on hb_w1
      clear p0 p1 m0 m1 m2 m3 m4 z h1 hT
      have p0 := hT1.pos.c0
      have p1 := hT1.pos.c1
      have m0 := hT1.mv.c0
      have m1 := hT1.mv.c1
      have m2 := hT1.mv.c2
      have m3 := hT1.mv.c3
      have m4 := hT1.mv.c4
      have z := hT1.mv.z
      go_wp2
      obtain ⟨hg, hb⟩ := hT1.ret 0 0 0 0 false
      exact ret_mv (r := R.no) (g := w.heap.size + 1) rfl rfl rfl rfl hg ⟨rfl, hb⟩
  · rw [decide_eq_false hp] at h1
    have hr : (rightR ls l c k past) = R.no := if_neg fun hh => hp hh.1
    rw [hr]
    clear hr h hs hX hp
    go_enter Try.func15, Try.ntmps15
    go_wp2_with fail
    rw [← HX.out]
    refine (h1).mono ?_
    rintro e w1 ⟨rfl, hb_w1⟩
    have hT1 := hT.on hb_w1
    clear p0 p1 m0 m1 m2 m3 m4 z h1 hT
    have p0 := hT1.pos.c0
    have p1 := hT1.pos.c1
    have m0 := hT1.mv.c0
    have m1 := hT1.mv.c1
    have m2 := hT1.mv.c2
    have m3 := hT1.mv.c3
    have m4 := hT1.mv.c4
    have z := hT1.mv.z
    go_wp2
    obtain ⟨hg, hb⟩ := hT1.ret 0 0 0 0 false
    exact ret_mv (r := R.no) (g := w.heap.size + 1) rfl rfl rfl rfl hg ⟨rfl, hb⟩

theorem right5_any (a : Option Addr) (n c' : Nat) (ls : List ByteArray) (l c : Int) (k : Int) (past : Bool) (w : World) (h : Ss w a n c' ls) (hs : ∀ s ∈ ls, s.size ≤ 140737488355328) :
    Calls Try.prog 16 #[.slice a n c', .agg #[.int .i64 l, .int .i64 c], .int .i64 k, .bool past] w fun e w' => e = .returned ((rightR ls l c k past)).v ∧ Below w.heap.size w w' := by
  obtain ⟨X, hX⟩ : ∃ X, X = ((w.alloc (.cells #[.int .i64 l, .int .i64 c] 24)).alloc (.cells #[.int .i64 0, .int .i64 0, .int .i64 0, .bool false, .int .i64 0] 32)) := ⟨_, rfl⟩
  have hT : Two w X l c := by rw [hX]; exact Two.new w l c
  have HX := Lib.hid hX
  have h1 := may_any a n c' ls l c k X (SrcV.below h hT.below)
  have p0 := hT.pos.c0
  have p1 := hT.pos.c1
  have m0 := hT.mv.c0
  have m1 := hT.mv.c1
  have m2 := hT.mv.c2
  have m3 := hT.mv.c3
  have m4 := hT.mv.c4
  have z := hT.mv.z
  have hlen := h.length
  have hn := h.le63
  by_cases hp' : Plc ls l c ∧ 1 ≤ k
  · rw [decide_eq_true hp'] at h1
    obtain ⟨hp, hk⟩ := hp'
    cases past
    · obtain ⟨i, m, rfl, rfl, hi, hm⟩ := hp.nat
      obtain ⟨b, o, rfl, hcell, hnc, _⟩ := h.read i hi
      have hlt := lineAt_get hi
      rw [← hlt] at hcell
      have hsz := hs (ls[i]'hi) (List.getElem_mem _)
      rw [← hlt] at hsz
      rw [hlen] at hi
      have hd : (rightR ls i m k false) = if (m : Int) < (top (lineAt ls i) false : Nat) then R.to i (min (m + min k 1073741824) (top (lineAt ls i) false : Nat)) else R.no := by
        unfold rightR
        rw [Int.toNat_natCast]
        by_cases hh : (m : Int) < (top (lineAt ls i) false : Nat)
        · rw [if_pos ⟨hp, hk, hh⟩, if_pos hh]
        · rw [if_neg (fun h => hh h.2.2), if_neg hh]
      rw [hd]
      have htop : top (lineAt ls i) false = (lineAt ls i).size - 1 := by unfold top; simp
      rw [htop]
      clear hd hp h hs hX hlt htop
      generalize lineAt ls i = s at *
      have h2 := fun W => capped_any k W
      by_cases ht : (m : Int) < ((s.size - 1 : Nat) : Int)
      · rw [if_pos ht]
        generalize hM : min k 1073741824 = M at *
        obtain ⟨E, hE⟩ : ∃ E, E = min (m + M) ((s.size - 1 : Nat) : Int) := ⟨_, rfl⟩
        have e0 : IntKind.i64.wrap ((m : Int) + M) = m + M := by rw [IntKind.wrap_i64]; omega
        have e1 : (if (s.size : Int) - 1 < m + M then (s.size : Int) - 1 else m + M) = E := by omega
        have e2 : min ((m : Int) + M) ((s.size : Int) - 1) = E := by omega
        have h3 := fun W => to_any i E W
        rw [← hE]
        have ew : IntKind.i64.wrap ((s.size : Int) - 1) = (s.size : Int) - 1 := by rw [IntKind.wrap_i64]; omega
        have hz : ((s.size : Int) == 0) = false := by rw [beq_eq_false_iff_ne]; omega
        have ht1 : ¬ (s.size : Int) - 1 ≤ m := by omega
        clear hk hM hE ht
        go_enter Try.func16, Try.ntmps16
        go_wp2_with fail
        rw [← HX.out]
        refine (h1).mono ?_
        rintro e w1 ⟨rfl, hb_w1⟩
        have hT1 := hT.on hb_w1
        clear p0 p1 m0 m1 m2 m3 m4 z h1
        have p0 := hT1.pos.c0
        have p1 := hT1.pos.c1
        have m0 := hT1.mv.c0
        have m1 := hT1.mv.c1
        have m2 := hT1.mv.c2
        have m3 := hT1.mv.c3
        have m4 := hT1.mv.c4
        have z := hT1.mv.z
        have hc1 := cell_later (hT.below.trans (hb_w1.mono hT.below.size)) hcell
        have g2 := fun z : Gr w1 => h2 z.W
        have g3 := fun z : Gr w1 => h3 z.W
        clear h2 h3 hcell hT
        go_wp2_with fail
        have f_p0 := fun z : Gr w1 => z.cell p0
        have f_p1 := fun z : Gr w1 => z.cell p1
        have f_hc1 := fun z : Gr w1 => z.cell hc1
        clear p0 p1 m0 m1 m2 m3 m4 z
        refine wp_region_grow_tail 12 (by kernel_rfl) (by kernel_rfl) ?_
        simp only [List.take_succ_cons, List.take_zero, List.drop_succ_cons, List.drop_zero]
        repeat (go_big_quiet_step (first | (go_at_call 34; exact Calls.grow_of_same (g2 _)) | (go_at_call 33; exact Calls.grow_of (g3 _))))
        refine wpQuiet_nil ?_
        rintro w2 ⟨⟨_, hb_w2⟩, rfl⟩
        have hT2 := hT1.on hb_w2
        clear f_p0 f_p1 f_hc1
        have p0 := hT2.pos.c0
        have p1 := hT2.pos.c1
        have m0 := hT2.mv.c0
        have m1 := hT2.mv.c1
        have m2 := hT2.mv.c2
        have m3 := hT2.mv.c3
        have m4 := hT2.mv.c4
        have z := hT2.mv.z
        clear g2 g3
        go_wp2
        obtain ⟨hg, hb⟩ := hT2.ret i E 0 (-1) false
        exact ret_mv (r := (R.to i E)) (g := w.heap.size + 1) rfl rfl rfl rfl hg ⟨rfl, hb⟩
      · rw [if_neg ht]
        by_cases hz0 : s.size = 0
        · have hz : ((s.size : Int) == 0) = true := by rw [beq_iff_eq]; omega
          have ew : IntKind.i64.wrap ((s.size : Int) - 1) = (s.size : Int) - 1 := by rw [IntKind.wrap_i64]; omega
          clear hk ht hz0
          go_enter Try.func16, Try.ntmps16
          go_wp2_with fail
          rw [← HX.out]
          refine (h1).mono ?_
          rintro e w1 ⟨rfl, hb_w1⟩
          have hT1 := hT.on hb_w1
          clear p0 p1 m0 m1 m2 m3 m4 z h1
          have p0 := hT1.pos.c0
          have p1 := hT1.pos.c1
          have m0 := hT1.mv.c0
          have m1 := hT1.mv.c1
          have m2 := hT1.mv.c2
          have m3 := hT1.mv.c3
          have m4 := hT1.mv.c4
          have z := hT1.mv.z
          have hc1 := cell_later (hT.below.trans (hb_w1.mono hT.below.size)) hcell
          clear h2 hcell hT
          go_wp2_with fail
          refine (none_any _).mono ?_
          rintro e w8 ⟨rfl, hb_w8⟩
          have hT8 := hT1.on hb_w8
          clear p0 p1 m0 m1 m2 m3 m4 z
          have p0 := hT8.pos.c0
          have p1 := hT8.pos.c1
          have m0 := hT8.mv.c0
          have m1 := hT8.mv.c1
          have m2 := hT8.mv.c2
          have m3 := hT8.mv.c3
          have m4 := hT8.mv.c4
          have z := hT8.mv.z
          go_wp2
          obtain ⟨hg, hb⟩ := hT8.ret 0 0 0 0 false
          exact ret_mv (r := R.no) (g := w.heap.size + 1) rfl rfl rfl rfl hg ⟨rfl, hb⟩
        · have hz : ((s.size : Int) == 0) = false := by rw [beq_eq_false_iff_ne]; omega
          have ew : IntKind.i64.wrap ((s.size : Int) - 1) = (s.size : Int) - 1 := by rw [IntKind.wrap_i64]; omega
          have ht1 : (s.size : Int) - 1 ≤ m := by omega
          clear hk ht hz0
          go_enter Try.func16, Try.ntmps16
          go_wp2_with fail
          rw [← HX.out]
          refine (h1).mono ?_
          rintro e w1 ⟨rfl, hb_w1⟩
          have hT1 := hT.on hb_w1
          clear p0 p1 m0 m1 m2 m3 m4 z h1
          have p0 := hT1.pos.c0
          have p1 := hT1.pos.c1
          have m0 := hT1.mv.c0
          have m1 := hT1.mv.c1
          have m2 := hT1.mv.c2
          have m3 := hT1.mv.c3
          have m4 := hT1.mv.c4
          have z := hT1.mv.z
          have hc1 := cell_later (hT.below.trans (hb_w1.mono hT.below.size)) hcell
          clear h2 hcell hT
          go_wp2_with fail
          refine (none_any _).mono ?_
          rintro e w8 ⟨rfl, hb_w8⟩
          have hT8 := hT1.on hb_w8
          clear p0 p1 m0 m1 m2 m3 m4 z
          have p0 := hT8.pos.c0
          have p1 := hT8.pos.c1
          have m0 := hT8.mv.c0
          have m1 := hT8.mv.c1
          have m2 := hT8.mv.c2
          have m3 := hT8.mv.c3
          have m4 := hT8.mv.c4
          have z := hT8.mv.z
          go_wp2
          obtain ⟨hg, hb⟩ := hT8.ret 0 0 0 0 false
          exact ret_mv (r := R.no) (g := w.heap.size + 1) rfl rfl rfl rfl hg ⟨rfl, hb⟩
    · obtain ⟨i, m, rfl, rfl, hi, hm⟩ := hp.nat
      obtain ⟨b, o, rfl, hcell, hnc, _⟩ := h.read i hi
      have hlt := lineAt_get hi
      rw [← hlt] at hcell
      have hsz := hs (ls[i]'hi) (List.getElem_mem _)
      rw [← hlt] at hsz
      rw [hlen] at hi
      have hd : (rightR ls i m k true) = if (m : Int) < (top (lineAt ls i) true : Nat) then R.to i (min (m + min k 1073741824) (top (lineAt ls i) true : Nat)) else R.no := by
        unfold rightR
        rw [Int.toNat_natCast]
        by_cases hh : (m : Int) < (top (lineAt ls i) true : Nat)
        · rw [if_pos ⟨hp, hk, hh⟩, if_pos hh]
        · rw [if_neg (fun h => hh h.2.2), if_neg hh]
      rw [hd]
      have htop : top (lineAt ls i) true = (lineAt ls i).size := by unfold top; simp
      rw [htop]
      clear hd hp h hs hX hlt htop
      generalize lineAt ls i = s at *
      have h2 := fun W => capped_any k W
      by_cases ht : (m : Int) < (s.size : Int)
      · rw [if_pos ht]
        generalize hM : min k 1073741824 = M at *
        obtain ⟨E, hE⟩ : ∃ E, E = min (m + M) (s.size : Int) := ⟨_, rfl⟩
        have e0 : IntKind.i64.wrap ((m : Int) + M) = m + M := by rw [IntKind.wrap_i64]; omega
        have e1 : (if (s.size : Int) < m + M then (s.size : Int) else m + M) = E := by omega
        have e2 : min ((m : Int) + M) ((s.size : Int)) = E := by omega
        have h3 := fun W => to_any i E W
        rw [← hE]
        have hz : ((s.size : Int) == 0) = false := by rw [beq_eq_false_iff_ne]; omega
        have ht1 : ¬ s.size ≤ m := by omega
        clear hk hM hE ht
        go_enter Try.func16, Try.ntmps16
        go_wp2_with fail
        rw [← HX.out]
        refine (h1).mono ?_
        rintro e w1 ⟨rfl, hb_w1⟩
        have hT1 := hT.on hb_w1
        clear p0 p1 m0 m1 m2 m3 m4 z h1
        have p0 := hT1.pos.c0
        have p1 := hT1.pos.c1
        have m0 := hT1.mv.c0
        have m1 := hT1.mv.c1
        have m2 := hT1.mv.c2
        have m3 := hT1.mv.c3
        have m4 := hT1.mv.c4
        have z := hT1.mv.z
        have hc1 := cell_later (hT.below.trans (hb_w1.mono hT.below.size)) hcell
        have g2 := fun z : Gr w1 => h2 z.W
        have g3 := fun z : Gr w1 => h3 z.W
        clear h2 h3 hcell hT
        go_wp2_with fail
        have f_p0 := fun z : Gr w1 => z.cell p0
        have f_p1 := fun z : Gr w1 => z.cell p1
        have f_hc1 := fun z : Gr w1 => z.cell hc1
        clear p0 p1 m0 m1 m2 m3 m4 z
        refine wp_region_grow_tail 12 (by kernel_rfl) (by kernel_rfl) ?_
        simp only [List.take_succ_cons, List.take_zero, List.drop_succ_cons, List.drop_zero]
        repeat (go_big_quiet_step (first | (go_at_call 34; exact Calls.grow_of_same (g2 _)) | (go_at_call 33; exact Calls.grow_of (g3 _))))
        refine wpQuiet_nil ?_
        rintro w2 ⟨⟨_, hb_w2⟩, rfl⟩
        have hT2 := hT1.on hb_w2
        clear f_p0 f_p1 f_hc1
        have p0 := hT2.pos.c0
        have p1 := hT2.pos.c1
        have m0 := hT2.mv.c0
        have m1 := hT2.mv.c1
        have m2 := hT2.mv.c2
        have m3 := hT2.mv.c3
        have m4 := hT2.mv.c4
        have z := hT2.mv.z
        clear g2 g3
        go_wp2
        obtain ⟨hg, hb⟩ := hT2.ret i E 0 (-1) false
        exact ret_mv (r := (R.to i E)) (g := w.heap.size + 1) rfl rfl rfl rfl hg ⟨rfl, hb⟩
      · rw [if_neg ht]
        by_cases hz0 : s.size = 0
        · have hz : ((s.size : Int) == 0) = true := by rw [beq_iff_eq]; omega
          clear hk ht hz0
          go_enter Try.func16, Try.ntmps16
          go_wp2_with fail
          rw [← HX.out]
          refine (h1).mono ?_
          rintro e w1 ⟨rfl, hb_w1⟩
          have hT1 := hT.on hb_w1
          clear p0 p1 m0 m1 m2 m3 m4 z h1
          have p0 := hT1.pos.c0
          have p1 := hT1.pos.c1
          have m0 := hT1.mv.c0
          have m1 := hT1.mv.c1
          have m2 := hT1.mv.c2
          have m3 := hT1.mv.c3
          have m4 := hT1.mv.c4
          have z := hT1.mv.z
          have hc1 := cell_later (hT.below.trans (hb_w1.mono hT.below.size)) hcell
          clear h2 hcell hT
          go_wp2_with fail
          refine (none_any _).mono ?_
          rintro e w8 ⟨rfl, hb_w8⟩
          have hT8 := hT1.on hb_w8
          clear p0 p1 m0 m1 m2 m3 m4 z
          have p0 := hT8.pos.c0
          have p1 := hT8.pos.c1
          have m0 := hT8.mv.c0
          have m1 := hT8.mv.c1
          have m2 := hT8.mv.c2
          have m3 := hT8.mv.c3
          have m4 := hT8.mv.c4
          have z := hT8.mv.z
          go_wp2
          obtain ⟨hg, hb⟩ := hT8.ret 0 0 0 0 false
          exact ret_mv (r := R.no) (g := w.heap.size + 1) rfl rfl rfl rfl hg ⟨rfl, hb⟩
        · have hz : ((s.size : Int) == 0) = false := by rw [beq_eq_false_iff_ne]; omega
          have ht1 : s.size ≤ m := by omega
          clear hk ht hz0
          go_enter Try.func16, Try.ntmps16
          go_wp2_with fail
          rw [← HX.out]
          refine (h1).mono ?_
          rintro e w1 ⟨rfl, hb_w1⟩
          have hT1 := hT.on hb_w1
          clear p0 p1 m0 m1 m2 m3 m4 z h1
          have p0 := hT1.pos.c0
          have p1 := hT1.pos.c1
          have m0 := hT1.mv.c0
          have m1 := hT1.mv.c1
          have m2 := hT1.mv.c2
          have m3 := hT1.mv.c3
          have m4 := hT1.mv.c4
          have z := hT1.mv.z
          have hc1 := cell_later (hT.below.trans (hb_w1.mono hT.below.size)) hcell
          clear h2 hcell hT
          go_wp2_with fail
          refine (none_any _).mono ?_
          rintro e w8 ⟨rfl, hb_w8⟩
          have hT8 := hT1.on hb_w8
          clear p0 p1 m0 m1 m2 m3 m4 z
          have p0 := hT8.pos.c0
          have p1 := hT8.pos.c1
          have m0 := hT8.mv.c0
          have m1 := hT8.mv.c1
          have m2 := hT8.mv.c2
          have m3 := hT8.mv.c3
          have m4 := hT8.mv.c4
          have z := hT8.mv.z
          go_wp2
          obtain ⟨hg, hb⟩ := hT8.ret 0 0 0 0 false
          exact ret_mv (r := R.no) (g := w.heap.size + 1) rfl rfl rfl rfl hg ⟨rfl, hb⟩
  · rw [decide_eq_false hp'] at h1
    have hr : (rightR ls l c k past) = R.no := if_neg fun hh => hp' ⟨hh.1, hh.2.1⟩
    rw [hr]
    clear hr h hs hX hp'
    go_enter Try.func16, Try.ntmps16
    go_wp2_with fail
    rw [← HX.out]
    refine (h1).mono ?_
    rintro e w1 ⟨rfl, hb_w1⟩
    have hT1 := hT.on hb_w1
    clear p0 p1 m0 m1 m2 m3 m4 z h1 hT
    have p0 := hT1.pos.c0
    have p1 := hT1.pos.c1
    have m0 := hT1.mv.c0
    have m1 := hT1.mv.c1
    have m2 := hT1.mv.c2
    have m3 := hT1.mv.c3
    have m4 := hT1.mv.c4
    have z := hT1.mv.z
    go_wp2_with fail
    refine (none_any _).mono ?_
    rintro e w2 ⟨rfl, hb_w2⟩
    have hT2 := hT1.on hb_w2
    clear p0 p1 m0 m1 m2 m3 m4 z
    have p0 := hT2.pos.c0
    have p1 := hT2.pos.c1
    have m0 := hT2.mv.c0
    have m1 := hT2.mv.c1
    have m2 := hT2.mv.c2
    have m3 := hT2.mv.c3
    have m4 := hT2.mv.c4
    have z := hT2.mv.z
    go_wp2
    obtain ⟨hg, hb⟩ := hT2.ret 0 0 0 0 false
    exact ret_mv (r := R.no) (g := w.heap.size + 1) rfl rfl rfl rfl hg ⟨rfl, hb⟩

end Go.Proofs.Ytaekgempoaoioaa.Ch
