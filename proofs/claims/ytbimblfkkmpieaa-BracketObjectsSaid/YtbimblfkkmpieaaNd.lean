/-
  The document's Bracket.
-/
import Derived.Test.YtbimblfkkmpieaaNo
set_option linter.unusedVariables false
set_option linter.unusedSimpArgs false
set_option maxRecDepth 100000
namespace Go.Proofs.Ytbimblfkkmpieaa.Bo
open Go Go.RowKit Go.Proofs.Ytbimblfkkmpieaa.Vk Go.Proofs.Ytbimblfkkmpieaa.Str Go.Proofs.Ytbimblfkkmpieaa.Ln Go.Proofs.Ytbimblfkkmpieaa.Cl Go.Proofs.Ytbimblfkkmpieaa.Mv Go.Proofs.Ytbimblfkkmpieaa.Pr Go.Proofs.Ytbimblfkkmpieaa.Wd
open Go.Proofs.Ytbimblfkkmpieaa.Wo (RgAt putR rgv ret_rb)
attribute [local go_sem] Oper.semAt_some

theorem pos_set1 {W : World} {g : Nat} {l c : Int} (h : PosAt W g l c) (v : Int) : PosAt (W.setCell ⟨g, 1, none⟩ (.int .i64 v)) g l v := by
  unfold PosAt; exact (heap_setCell_same W g 1 _ _ _ h).trans (by simp)
theorem pos_set_other {W : World} {g g' : Nat} {l c : Int} (h : PosAt W g l c) (hg : g ≠ g') (k : Nat) (v : Value) : PosAt (W.setCell ⟨g', k, none⟩ v) g l c := (Below.heap_setCell _ _ _ _ hg).trans h

set_option maxHeartbeats 4000000 in
theorem bracket15_any (a : Option Addr) (n c' : Nat) (ls : List ByteArray) (l c : Int) (b : Nat) (nn : Int) (ar : Bool) (w : World) (h : Ss w a n c' ls) (hs : ∀ s ∈ ls, s.size ≤ 140737488355328) (hn6 : n ≤ 1000000) (htz : tz ls ≤ 900000) (hnn : nn ≤ 9223372036854775807) :
    Calls Try.prog 10 #[.slice a n c', .agg #[.int .i64 l, .int .i64 c], .int .u8 b, .int .i64 nn, .bool ar] w fun e w' => e = .returned (brV ar (brk ls l c b nn)) ∧ Below w.heap.size w w' := by
  obtain ⟨X, hX⟩ : ∃ X, X = (w.alloc (.cells #[.int .i64 l, .int .i64 c] 24)).alloc (.cells #[.int .i64 0, .int .i64 0, .int .i64 0, .int .i64 0, .int .i64 0] 33) := ⟨_, rfl⟩
  have hT : Vb w X l c := by rw [hX]; exact Vb.new w l c
  have hon := Wo.on_any a n c' ls l c nn X (SrcV.below h hT.below)
  have hen := fun W (hW : Below X.heap.size X W) => encl5_any a n c' ls l c b nn W (SrcV.below h (hT.below.trans (hW.mono hT.below.size))) hs hn6 htz hnn
  have p0 := hT.pos.c0
  have p1 := hT.pos.c1
  have HX := Lib.hid hX
  have HT := Lib.hid hT
  clear hX hT
  by_cases ho : Wo.On ls l c ∧ 1 ≤ nn
  rotate_left
  · have hb : brk ls l c b nn = none := by
      by_cases h1 : Wo.On ls l c
      · exact brk_cnt (fun h2 => ho ⟨h1, h2⟩)
      · exact brk_off h1
    rw [hb]
    rw [decide_eq_false ho] at hon
    simp only [brV]
    clear hb ho h hen
    go_enter Try.func10, Try.ntmps10
    go_wp2_with fail
    rw [← HX.out]
    refine hon.mono ?_
    rintro e w1 ⟨rfl, hb1⟩
    have T1 := HT.out.on hb1
    clear hb1 hon p0 p1
    have r0 := T1.rg.c0
    have r1 := T1.rg.c1
    have r2 := T1.rg.c2
    have r3 := T1.rg.c3
    have r4 := T1.rg.c4
    have z := T1.rg.z
    go_wp2
    obtain ⟨hg, hb⟩ := T1.ret 0 0 0 0 0
    exact ret_rb (g := w.heap.size + 1) rfl rfl rfl rfl hg ⟨rfl, hb⟩
  rw [decide_eq_true ho] at hon
  rw [← brk_on (b := b) (nn := nn) ho.1] at hen
  cases hp : brk ls l c b nn with
  | none =>
    rw [hp] at hen
    simp only [eW, eU, brV] at hen ⊢
    clear hp h ho
    go_enter Try.func10, Try.ntmps10
    go_wp2_with fail
    rw [← HX.out]
    refine hon.mono ?_
    rintro e w1 ⟨rfl, hb1⟩
    have T1 := HT.out.on hb1
    have hen := hen w1 hb1
    clear hb1 hon p0 p1
    have p0 := T1.pos.c0
    have p1 := T1.pos.c1
    go_wp2_with fail
    refine hen.mono ?_
    rintro e w2 ⟨rfl, hb2⟩
    have T2 := T1.on hb2
    clear hb2 hen p0 p1 T1
    go_upto_region 5 with fail
    obtain ⟨Y, hY⟩ : ∃ Y, Y = (w2.alloc (.cells #[.int .i64 0, .int .i64 0] 24)).alloc (.cells #[.int .i64 0, .int .i64 0] 24) := ⟨_, rfl⟩
    obtain ⟨_, _, hbY⟩ := two_pos w2 0 0 0 0
    rw [← hY] at hbY ⊢
    have T3 := T2.on hbY
    clear hY hbY T2
    have r0 := T3.rg.c0
    have r1 := T3.rg.c1
    have r2 := T3.rg.c2
    have r3 := T3.rg.c3
    have r4 := T3.rg.c4
    have z := T3.rg.z
    go_wp2
    obtain ⟨hg, hb⟩ := T3.ret 0 0 0 0 0
    exact ret_rb (g := w.heap.size + 1) rfl rfl rfl rfl hg ⟨rfl, hb⟩
  | some x =>
    have hat := brk_at hp
    obtain ⟨⟨i, k⟩, j, m⟩ := x
    have h1 := hat.k1
    have h2 := hs (lineAt ls i) (by rw [lineAt_get hat.l1]; exact List.getElem_mem hat.l1)
    have h3 := hat.k2
    have h4 := hs (lineAt ls j) (by rw [lineAt_get hat.l2]; exact List.getElem_mem hat.l2)
    simp only at h1 h2 h3 h4
    obtain ⟨k1, hk1⟩ : ∃ k1, k1 = k + 1 := ⟨_, rfl⟩
    obtain ⟨m1, hm1⟩ : ∃ m1, m1 = m + 1 := ⟨_, rfl⟩
    have wk : IntKind.i64.wrap ((k : Int) + 1) = (k1 : Int) := by rw [IntKind.wrap_i64]; omega
    have wm : IntKind.i64.wrap ((m : Int) + 1) = (m1 : Int) := by rw [IntKind.wrap_i64]; omega
    rw [hp] at hen
    simp only [eW, eU] at hen
    have hv : brV ar (some ((i, k), j, m)) = .tuple #[rgv 0 i ((if ar = true then k else k1 : Nat) : Int) j ((if ar = true then m1 else m : Nat) : Int), .bool true] := by rw [hk1, hm1]; rfl
    rw [hv]
    clear hp h ho hat h1 h2 h3 h4 hk1 hm1 hv
    cases ar with
    | true =>
      have hch := fun W => Wo.char_any i k j m1 W
      rw [if_pos rfl, if_pos rfl]
      go_enter Try.func10, Try.ntmps10
      go_wp2_with fail
      rw [← HX.out]
      refine hon.mono ?_
      rintro e w1 ⟨rfl, hb1⟩
      have T1 := HT.out.on hb1
      have hen := hen w1 hb1
      clear hb1 hon p0 p1
      have p0 := T1.pos.c0
      have p1 := T1.pos.c1
      go_wp2_with fail
      refine hen.mono ?_
      rintro e w2 ⟨rfl, hb2⟩
      have T2 := T1.on hb2
      clear hb2 hen p0 p1 T1
      go_upto_region 7 with fail
      obtain ⟨Y, hY⟩ : ∃ Y, Y = (w2.alloc (.cells #[.int .i64 i, .int .i64 k] 24)).alloc (.cells #[.int .i64 j, .int .i64 m] 24) := ⟨_, rfl⟩
      obtain ⟨hA, hB, hbY⟩ := two_pos w2 i k j m
      rw [← hY] at hA hB hbY ⊢
      clear hY
      have q0 := hB.c0
      have q1 := hB.c1
      have z := fun k => frozen_of_row Y (w2.heap.size + 1) k _ _ hB
      go_upto_region 9 with fail
      clear q0 q1 z
      obtain ⟨V, hV⟩ : ∃ V, V = Y.setCell ⟨w2.heap.size + 1, 1, none⟩ (.int .i64 m1) := ⟨_, rfl⟩
      have hA := pos_set_other hA (show w2.heap.size ≠ w2.heap.size + 1 by omega) 1 (.int .i64 m1)
      have hB := pos_set1 hB m1
      have hbV : Below w2.heap.size w2 (Y.setCell ⟨w2.heap.size + 1, 1, none⟩ (.int .i64 m1)) := hbY.setCell (p := ⟨w2.heap.size + 1, 1, none⟩) (Nat.le_succ _) _
      rw [← hV] at hA hB hbV ⊢
      have T4 := T2.on hbV
      have q0 := hA.c0
      have q1 := hA.c1
      have q2 := hB.c0
      have q3 := hB.c1
      clear hV hA hB hbV hbY T2
      go_wp2_with fail
      refine (hch _).mono ?_
      rintro e w3 ⟨rfl, hb3⟩
      have T5 := T4.on hb3
      clear hb3 hch q0 q1 q2 q3 T4
      have r0 := T5.rg.c0
      have r1 := T5.rg.c1
      have r2 := T5.rg.c2
      have r3 := T5.rg.c3
      have r4 := T5.rg.c4
      have z := T5.rg.z
      go_wp2
      obtain ⟨hg, hb⟩ := T5.ret 0 i k j m1
      exact ret_rb (g := w.heap.size + 1) rfl rfl rfl rfl hg ⟨rfl, hb⟩
    | false =>
      have hch := fun W => Wo.char_any i k1 j m W
      rw [if_neg (by simp), if_neg (by simp)]
      go_enter Try.func10, Try.ntmps10
      go_wp2_with fail
      rw [← HX.out]
      refine hon.mono ?_
      rintro e w1 ⟨rfl, hb1⟩
      have T1 := HT.out.on hb1
      have hen := hen w1 hb1
      clear hb1 hon p0 p1
      have p0 := T1.pos.c0
      have p1 := T1.pos.c1
      go_wp2_with fail
      refine hen.mono ?_
      rintro e w2 ⟨rfl, hb2⟩
      have T2 := T1.on hb2
      clear hb2 hen p0 p1 T1
      go_upto_region 8 with fail
      obtain ⟨Y, hY⟩ : ∃ Y, Y = (w2.alloc (.cells #[.int .i64 i, .int .i64 k] 24)).alloc (.cells #[.int .i64 j, .int .i64 m] 24) := ⟨_, rfl⟩
      obtain ⟨hA, hB, hbY⟩ := two_pos w2 i k j m
      rw [← hY] at hA hB hbY ⊢
      clear hY
      have q0 := hA.c0
      have q1 := hA.c1
      have z := fun k => frozen_of_row Y (w2.heap.size) k _ _ hA
      go_upto_region 9 with fail
      clear q0 q1 z
      obtain ⟨V, hV⟩ : ∃ V, V = Y.setCell ⟨w2.heap.size, 1, none⟩ (.int .i64 k1) := ⟨_, rfl⟩
      have hB := pos_set_other hB (show w2.heap.size + 1 ≠ w2.heap.size by omega) 1 (.int .i64 k1)
      have hA := pos_set1 hA k1
      have hbV : Below w2.heap.size w2 (Y.setCell ⟨w2.heap.size, 1, none⟩ (.int .i64 k1)) := hbY.setCell (p := ⟨w2.heap.size, 1, none⟩) (Nat.le_refl _) _
      rw [← hV] at hA hB hbV ⊢
      have T4 := T2.on hbV
      have q0 := hA.c0
      have q1 := hA.c1
      have q2 := hB.c0
      have q3 := hB.c1
      clear hV hA hB hbV hbY T2
      go_wp2_with fail
      refine (hch _).mono ?_
      rintro e w3 ⟨rfl, hb3⟩
      have T5 := T4.on hb3
      clear hb3 hch q0 q1 q2 q3 T4
      have r0 := T5.rg.c0
      have r1 := T5.rg.c1
      have r2 := T5.rg.c2
      have r3 := T5.rg.c3
      have r4 := T5.rg.c4
      have z := T5.rg.z
      go_wp2
      obtain ⟨hg, hb⟩ := T5.ret 0 i k1 j m
      exact ret_rb (g := w.heap.size + 1) rfl rfl rfl rfl hg ⟨rfl, hb⟩
end Go.Proofs.Ytbimblfkkmpieaa.Bo
