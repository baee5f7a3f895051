/-
  Package paraobj: Sentence.
-/
import Derived.Test.YtnngcminomooeaaXw
import Derived.Test.YtnngcminomooeaaOj
set_option linter.unusedVariables false
set_option linter.unusedSimpArgs false
set_option maxRecDepth 100000
namespace Go.Proofs.Ytnngcminomooeaa.Po
open Go Go.RowKit Go.Proofs.Ytnngcminomooeaa.Vk Go.Proofs.Ytnngcminomooeaa.Str Go.Proofs.Ytnngcminomooeaa.Ln Go.Proofs.Ytnngcminomooeaa.Cl Go.Proofs.Ytnngcminomooeaa.Mv Go.Proofs.Ytnngcminomooeaa.Wd Go.Proofs.Ytnngcminomooeaa.Pa
open Go.Proofs.Ytnngcminomooeaa.So (enr enr_cut enr_length lcell lcell_length lcell_get cells cells_snoc cells_step Cell)
open Go.Proofs.Ytnngcminomooeaa.Wo (On rgv Vb RgAt putR putR_below ret_rb on_any)
attribute [local go_sem] Oper.semAt_some

theorem eq_p2 (p q : P2) : (decide ((p.1 : Int) = (q.1 : Int)) && decide ((p.2 : Int) = (q.2 : Int))) = decide (p = q) := by
  obtain ⟨a, b⟩ := p
  obtain ⟨c, d⟩ := q
  by_cases h1 : a = c <;> by_cases h2 : b = d <;> simp [h1, h2] <;> omega

set_option maxHeartbeats 8000000 in
theorem sentence_any (a : Option Addr) (n c' : Nat) (ls : List ByteArray) (l c : Int) (ar : Bool) (w : World) (h : Ss w a n c' ls) (hs : ∀ s ∈ ls, s.size ≤ 140737488355328) (hn6 : n ≤ 1000000) :
    Calls Try.prog 18 #[.slice a n c', .agg #[.int .i64 l, .int .i64 c], .bool ar] w fun e w' => e = .returned (snW (snQ ls l c ar)) ∧ Below w.heap.size w w' := by
  have hlen := h.length
  obtain ⟨X, hX⟩ : ∃ X, X = (w.alloc (.cells #[.int .i64 l, .int .i64 c] 36)).alloc (.cells #[.int .i64 0, .int .i64 0, .int .i64 0, .int .i64 0, .int .i64 0] 42) := ⟨_, rfl⟩
  have hT : Vb w X l c := by rw [hX]; exact Vb.new w l c
  have hin := inside_any a n c' ls l c X (SrcV.below h hT.below) hs
  have HX := Lib.hid hX
  have p0 := hT.pos.c0
  have p1 := hT.pos.c1
  by_cases hO : On ls l c
  rotate_left
  · rw [snQ_no hO]
    rw [decide_eq_false hO] at hin
    clear hX h hO
    go_enter Try.func18, Try.ntmps18
    go_wp2_with fail
    rw [← HX.out]
    refine hin.mono ?_
    rintro e w1 ⟨rfl, hb1⟩
    have T1 := hT.on hb1
    clear hin p0 p1 hT hb1
    have r0 := T1.rg.c0
    have r1' := T1.rg.c1
    have r2' := T1.rg.c2
    have r3' := T1.rg.c3
    have r4 := T1.rg.c4
    have z := T1.rg.z
    go_wp2
    obtain ⟨hg, hb⟩ := T1.ret 0 0 0 0 0
    exact ret_rb (g := w.heap.size + 1) rfl rfl rfl rfl hg ⟨rfl, hb⟩
  rw [decide_eq_true hO] at hin
  obtain ⟨i, k, rfl, rfl, hi, hk⟩ := hO.nat
  rw [snQ_yes hO]
  have hn0 : 0 < n := by omega
  have HS := Lib.hid h
  unfold snA
  obtain ⟨r1, hr1⟩ : ∃ r, r = sfr (sen ls) (i, k) := ⟨_, rfl⟩
  obtain ⟨r2, hr2⟩ : ∃ r, r = sto ls (sen ls) (i, k) := ⟨_, rfl⟩
  obtain ⟨r3, hr3⟩ : ∃ r, r = sok (sen ls) (i, k) := ⟨_, rfl⟩
  have hsa := fun W (hW : Below w.heap.size w W) => sentenceAt_any a n c' ls (i, k) W (SrcV.below h hW) hs hn6 hn0
  simp only [← hr1, ← hr2, ← hr3] at hsa ⊢
  obtain ⟨v, hv⟩ : ∃ v, v = snW (if r3 = true then (if r1 = (if ar = true then r2 else wend ls r1 r2) then none else some (r1, if ar = true then r2 else wend ls r1 r2)) else none) := ⟨_, rfl⟩
  rw [← hv]
  have HV := Lib.hid hv
  clear hX h hO hk hi hr1 hr2 hr3 hv
  go_enter Try.func18, Try.ntmps18
  go_wp2_with fail
  rw [← HX.out]
  refine hin.mono ?_
  rintro e w1 ⟨rfl, hb1⟩
  have T1 := hT.on hb1
  clear hin p0 p1 hT hb1
  have p0 := T1.pos.c0
  have p1 := T1.pos.c1
  go_wp2_with fail
  refine (hsa _ T1.below).mono ?_
  rintro e w2 ⟨rfl, hb2⟩
  have T2 := T1.on hb2
  clear hsa p0 p1 hb2 T1
  go_upto_region 4 with fail
  obtain ⟨x3, hx3⟩ : ∃ v, v = (w2.alloc (.cells #[.int .i64 r1.1, .int .i64 r1.2] 36)).alloc (.cells #[.int .i64 r2.1, .int .i64 r2.2] 36) := ⟨_, rfl⟩
  have hb3 : Below w2.heap.size w2 x3 := by rw [hx3]; exact two_below _ _ _
  have PF : PosAt x3 w2.heap.size r1.1 r1.2 := by rw [hx3]; exact PosAt.below (PosAt.new w2 _ _) ((Below.refl _ _).alloc (Nat.le_refl _) _) (by simp)
  have PT : PosAt x3 (w2.heap.size + 1) r2.1 r2.2 := by rw [hx3]; exact two_new w2 _ _
  rw [← hx3]
  have T3 := T2.on hb3
  obtain ⟨G, hG⟩ : ∃ G, G = w2.heap.size := ⟨_, rfl⟩
  rw [← hG] at PF PT ⊢
  have hGw : w.heap.size + 2 ≤ G := by have := T2.size; omega
  clear hx3 hb3 T2 hG
  cases r3
  · have HV2 := Lib.hid (show v = snW none by rw [HV.out]; rfl)
    clear PF PT
    have r0 := T3.rg.c0
    have r1' := T3.rg.c1
    have r2' := T3.rg.c2
    have r3' := T3.rg.c3
    have r4 := T3.rg.c4
    have z := T3.rg.z
    go_wp2
    obtain ⟨hg, hb⟩ := T3.ret 0 0 0 0 0
    exact ret_rb (g := w.heap.size + 1) rfl rfl rfl rfl hg ⟨by rw [HV2.out]; rfl, hb⟩
  cases ar
  rotate_left
  · have hv : v = snW (if r1 = r2 then none else some (r1, r2)) := HV.out
    have he := fun W => Mv.eq_pos r1.1 r1.2 r2.1 r2.2 W
    rw [eq_p2] at he
    have b0 := PF.c0
    have b1 := PF.c1
    have b2 := PT.c0
    have b3 := PT.c1
    by_cases heq : r1 = r2
    · rw [decide_eq_true heq] at he
      rw [if_pos heq] at hv
      have HV2 := Lib.hid hv
      clear heq hv
      have r0 := T3.rg.c0
      have r1' := T3.rg.c1
      have r2' := T3.rg.c2
      have r3' := T3.rg.c3
      have r4 := T3.rg.c4
      have z := T3.rg.z
      go_wp2
      obtain ⟨hg, hb⟩ := T3.ret 0 0 0 0 0
      exact ret_rb (g := w.heap.size + 1) rfl rfl rfl rfl hg ⟨by rw [HV2.out]; rfl, hb⟩
    · rw [decide_eq_false heq] at he
      rw [if_neg heq] at hv
      have HV2 := Lib.hid hv
      clear heq hv
      have r0 := T3.rg.c0
      have r1' := T3.rg.c1
      have r2' := T3.rg.c2
      have r3' := T3.rg.c3
      have r4 := T3.rg.c4
      have z := T3.rg.z
      go_wp2
      obtain ⟨hg, hb⟩ := T3.ret 0 r1.1 r1.2 r2.1 r2.2
      exact ret_rb (g := w.heap.size + 1) rfl rfl rfl rfl hg ⟨by rw [HV2.out]; rfl, hb⟩
  have hv : v = snW (if r1 = wend ls r1 r2 then none else some (r1, wend ls r1 r2)) := HV.out
  have hwo := without_any a n c' ls r1 r2 x3 (SrcV.below HS.out T3.below) hs hn6
  obtain ⟨e, hee⟩ : ∃ e, e = wend ls r1 r2 := ⟨_, rfl⟩
  rw [← hee] at hwo hv
  clear hee
  have b0 := PF.c0
  have b1 := PF.c1
  have b2 := PT.c0
  have b3 := PT.c1
  go_wp2_with fail
  refine hwo.mono ?_
  rintro _ x4 ⟨rfl, hb4⟩
  have T4 := T3.on hb4
  have PF4 := PF.below hb4 PF.lt
  have PT4 := PT.below hb4 PT.lt
  clear hwo hb4 b0 b1 b2 b3 PF PT T3
  have b2 := PT4.c0
  have b3 := PT4.c1
  have bz := fun k => frozen_of_row x4 (G + 1) k _ _ PT4
  obtain ⟨x5, hx5⟩ : ∃ v, v = setP x4 (G + 1) e.1 e.2 := ⟨_, rfl⟩
  have PT : PosAt x5 (G + 1) e.1 e.2 := by rw [hx5]; exact setP_at PT4 _ _
  have PF : PosAt x5 G r1.1 r1.2 := by rw [hx5]; exact (setP_other (by omega)).trans PF4
  have T5 : Vb w x5 i k := by
    rw [hx5]
    exact ⟨(T4.below.setCell (p := ⟨G + 1, 0, none⟩) (by simp; omega) _).setCell (p := ⟨G + 1, 1, none⟩) (by simp; omega) _, by have := (setP_fr x4 (G + 1) e.1 e.2).size; have := T4.size; omega, (setP_other (by omega)).trans T4.pos, (setP_other (by omega)).trans T4.rg⟩
  clear T4 PF4 PT4
  go_upto_region 8 with fail
  have e5 := hx5.symm
  unfold setP at e5
  rw [e5]
  clear e5 hx5 b2 b3 bz
  have he := fun W => Mv.eq_pos r1.1 r1.2 e.1 e.2 W
  rw [eq_p2] at he
  have b0 := PF.c0
  have b1 := PF.c1
  have b2 := PT.c0
  have b3 := PT.c1
  by_cases heq : r1 = e
  · rw [decide_eq_true heq] at he
    rw [if_pos heq] at hv
    have HV2 := Lib.hid hv
    clear heq hv
    have r0 := T5.rg.c0
    have r1' := T5.rg.c1
    have r2' := T5.rg.c2
    have r3' := T5.rg.c3
    have r4 := T5.rg.c4
    have z := T5.rg.z
    go_wp2
    obtain ⟨hg, hb⟩ := T5.ret 0 0 0 0 0
    exact ret_rb (g := w.heap.size + 1) rfl rfl rfl rfl hg ⟨by rw [HV2.out]; rfl, hb⟩
  · rw [decide_eq_false heq] at he
    rw [if_neg heq] at hv
    have HV2 := Lib.hid hv
    clear heq hv
    have r0 := T5.rg.c0
    have r1' := T5.rg.c1
    have r2' := T5.rg.c2
    have r3' := T5.rg.c3
    have r4 := T5.rg.c4
    have z := T5.rg.z
    go_wp2
    obtain ⟨hg, hb⟩ := T5.ret 0 r1.1 r1.2 e.1 e.2
    exact ret_rb (g := w.heap.size + 1) rfl rfl rfl rfl hg ⟨by rw [HV2.out]; rfl, hb⟩
end Go.Proofs.Ytnngcminomooeaa.Po
