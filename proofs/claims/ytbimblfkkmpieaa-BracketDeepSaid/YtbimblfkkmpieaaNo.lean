/-
  Package pairobj: Inner, Around.
-/
import Derived.Test.YtbimblfkkmpieaaNi
set_option linter.unusedVariables false
set_option linter.unusedSimpArgs false
set_option maxRecDepth 100000
namespace Go.Proofs.Ytbimblfkkmpieaa.Bo
open Go Go.RowKit Go.Proofs.Ytbimblfkkmpieaa.Vk Go.Proofs.Ytbimblfkkmpieaa.Str Go.Proofs.Ytbimblfkkmpieaa.Ln Go.Proofs.Ytbimblfkkmpieaa.Cl Go.Proofs.Ytbimblfkkmpieaa.Mv Go.Proofs.Ytbimblfkkmpieaa.Pr Go.Proofs.Ytbimblfkkmpieaa.Wd
open Go.Proofs.Ytbimblfkkmpieaa.Wo (RgAt putR rgv ret_rb)
attribute [local go_sem] Oper.semAt_some

/-- The first two variables: the place, the answer. -/
structure Vb (w W : World) (l c : Int) : Prop where
  below : Below w.heap.size w W
  size : w.heap.size + 2 ≤ W.heap.size
  pos : PosAt W w.heap.size l c
  rg : RgAt W (w.heap.size + 1) 0 0 0 0 0
section
variable {w W W' : World} {l c : Int}
theorem Vb.new (w : World) (l c : Int) : Vb w ((w.alloc (.cells #[.int .i64 l, .int .i64 c] 24)).alloc (.cells #[.int .i64 0, .int .i64 0, .int .i64 0, .int .i64 0, .int .i64 0] 33)) l c :=
  ⟨two_below _ _ _, by simp, PosAt.below (PosAt.new w l c) ((Below.refl _ _).alloc (Nat.le_refl _) _) (by simp), two_new w _ _⟩
theorem Vb.on (h : Vb w W l c) (hb : Below W.heap.size W W') : Vb w W' l c :=
  ⟨h.below.trans (hb.mono h.below.size), Nat.le_trans h.size hb.size, h.pos.below hb h.pos.lt, h.rg.below hb h.rg.lt⟩
theorem Vb.ret (h : Vb w W l c) (k a d m f : Int) : RgAt (putR W (w.heap.size + 1) k a d m f) (w.heap.size + 1) k a d m f ∧ Below w.heap.size w (putR W (w.heap.size + 1) k a d m f) :=
  ⟨h.rg.put _ _ _ _ _, Wo.putR_below h.below (by omega) _ _ _ _ _⟩
end
theorem two_pos (W : World) (i k j m : Int) : PosAt ((W.alloc (.cells #[.int .i64 i, .int .i64 k] 24)).alloc (.cells #[.int .i64 j, .int .i64 m] 24)) W.heap.size i k ∧
    PosAt ((W.alloc (.cells #[.int .i64 i, .int .i64 k] 24)).alloc (.cells #[.int .i64 j, .int .i64 m] 24)) (W.heap.size + 1) j m ∧ Below W.heap.size W ((W.alloc (.cells #[.int .i64 i, .int .i64 k] 24)).alloc (.cells #[.int .i64 j, .int .i64 m] 24)) :=
  ⟨PosAt.below (PosAt.new W i k) ((Below.refl _ _).alloc (Nat.le_refl _) _) (by simp), two_new W _ _, two_below W _ _⟩
theorem run_store_rg {W : World} {g : Nat} {k l c m d k' l' c' m' d' : Int} (h : RgAt W g k l c m d) :
    (do Instr.storeAt 33 (.pointer (some ⟨g, 0, none⟩)) (rgv k' l' c' m' d'); pure Next.skip : Sem Next).run Try.prog W = .ok .skip (putR W g k' l' c' m' d') := by
  have m0 := h.c0
  have m1 := h.c1
  have m2 := h.c2
  have m3 := h.c3
  have m4 := h.c4
  have z := h.z
  unfold putR
  go_simp

set_option maxHeartbeats 4000000 in
theorem inner_any (a : Option Addr) (n c' : Nat) (ls : List ByteArray) (l c : Int) (b : Nat) (nn : Int) (w : World) (h : Ss w a n c' ls) (hs : ∀ s ∈ ls, s.size ≤ 140737488355328) (hn6 : n ≤ 1000000) (htz : tz ls ≤ 900000) (hnn : nn ≤ 9223372036854775807) :
    Calls Try.prog 9 #[.slice a n c', .agg #[.int .i64 l, .int .i64 c], .int .u8 b, .int .i64 nn] w fun e w' => e = .returned (brV false (brk ls l c b nn)) ∧ Below w.heap.size w w' := by
  obtain ⟨X, hX⟩ : ∃ X, X = (w.alloc (.cells #[.int .i64 l, .int .i64 c] 24)).alloc (.cells #[.int .i64 0, .int .i64 0, .int .i64 0, .int .i64 0, .int .i64 0] 33) := ⟨_, rfl⟩
  have hT : Vb w X l c := by rw [hX]; exact Vb.new w l c
  have hpo := brackets_any a n c' ls l c b nn X (SrcV.below h hT.below) hs hn6 htz hnn
  have p0 := hT.pos.c0
  have p1 := hT.pos.c1
  have HX := Lib.hid hX
  have HT := Lib.hid hT
  clear hX hT
  cases hp : brk ls l c b nn with
  | none =>
    rw [hp] at hpo
    simp only [eW, eU, brV] at hpo ⊢
    clear hp h
    go_enter Try.func9, Try.ntmps9
    go_wp2_with fail
    rw [← HX.out]
    refine hpo.mono ?_
    rintro e w1 ⟨rfl, hb1⟩
    have T1 := HT.out.on hb1
    clear hb1 hpo p0 p1
    go_upto_region 3 with fail
    obtain ⟨Y, hY⟩ : ∃ Y, Y = (w1.alloc (.cells #[.int .i64 0, .int .i64 0] 24)).alloc (.cells #[.int .i64 0, .int .i64 0] 24) := ⟨_, rfl⟩
    obtain ⟨_, _, hbY⟩ := two_pos w1 0 0 0 0
    rw [← hY] at hbY ⊢
    have T2 := T1.on hbY
    clear hY hbY T1
    have r0 := T2.rg.c0
    have r1 := T2.rg.c1
    have r2 := T2.rg.c2
    have r3 := T2.rg.c3
    have r4 := T2.rg.c4
    have z := T2.rg.z
    go_wp2
    obtain ⟨hg, hb⟩ := T2.ret 0 0 0 0 0
    exact ret_rb (g := w.heap.size + 1) rfl rfl rfl rfl hg ⟨rfl, hb⟩
  | some x =>
    have hat := brk_at hp
    obtain ⟨⟨i, k⟩, j, m⟩ := x
    have h1 := hat.k1
    have h2 := hs (lineAt ls i) (by rw [lineAt_get hat.l1]; exact List.getElem_mem hat.l1)
    simp only at h1 h2
    obtain ⟨k1, hk1⟩ : ∃ k1, k1 = k + 1 := ⟨_, rfl⟩
    have haf := fun W => after_any i k k1 W hk1 (by omega)
    rw [hp] at hpo
    have hv : brV false (some ((i, k), j, m)) = .tuple #[rgv 0 i k1 j m, .bool true] := by rw [hk1]; rfl
    rw [hv]
    simp only [eW, eU] at hpo
    clear hp h hat h1 h2 hk1 hv
    go_enter Try.func9, Try.ntmps9
    go_wp2_with fail
    rw [← HX.out]
    refine hpo.mono ?_
    rintro e w1 ⟨rfl, hb1⟩
    have T1 := HT.out.on hb1
    clear hb1 hpo p0 p1
    go_upto_region 4 with fail
    obtain ⟨Y, hY⟩ : ∃ Y, Y = (w1.alloc (.cells #[.int .i64 i, .int .i64 k] 24)).alloc (.cells #[.int .i64 j, .int .i64 m] 24) := ⟨_, rfl⟩
    obtain ⟨hA, hB, hbY⟩ := two_pos w1 i k j m
    rw [← hY] at hA hB hbY ⊢
    have T2 := Lib.hid (T1.on hbY)
    have q0 := hA.c0
    have q1 := hA.c1
    have q2 := hB.c0
    have q3 := hB.c1
    have F0 := fun (C : World → Prop) (hC : Grows Y C) (z : In C) => hC.cell q0 z
    have F1 := fun (C : World → Prop) (hC : Grows Y C) (z : In C) => hC.cell q1 z
    have F2 := fun (C : World → Prop) (hC : Grows Y C) (z : In C) => hC.cell q2 z
    have F3 := fun (C : World → Prop) (hC : Grows Y C) (z : In C) => hC.cell q3 z
    clear hY hA hB hbY T1 q0 q1 q2 q3
    refine wp_region_seg [0, 1, 2, 3] [(4, 3), (5, 2)] (by kernel_rfl) (by kernel_rfl) 29 rfl (by kernel_rfl) ?_
    simp only [List.map_cons, List.map_nil, opOf_succ, opOf_zero]
    apply Exists.intro
    refine ⟨fun C hC => ?_, ?_⟩
    · haveI hI := hC.one
      have f0 := F0 C hC
      have f1 := F1 C hC
      have f2 := F2 C hC
      have f3 := F3 C hC
      repeat (go_big_quiet_step (first | (go_at_call 16; exact Calls.in_of hC (haf _))))
      exact wpQuiet_nil rfl
    clear F0 F1 F2 F3 haf
    refine wpPath_store rfl fun Z hZ => ?_
    have T3 := T2.out.on hZ
    refine ⟨_, rfl, run_store_rg T3.rg, ?_⟩
    simp only [opOf_succ, opOf_zero, Act.put, List.setIfInBounds_toArray, List.set_cons_zero, List.set_cons_succ]
    obtain ⟨hg, hb⟩ := T3.ret 0 i k1 j m
    obtain ⟨Z2, hZ2⟩ : ∃ Z2, Z2 = putR Z (w.heap.size + 1) 0 i k1 j m := ⟨_, rfl⟩
    rw [← hZ2] at hg hb ⊢
    clear hZ2 hZ T3 T2
    refine wpPath_free (v := .bool true) rfl rfl (fun _ => rfl) ?_
    simp only [opOf_succ, opOf_zero, Act.put, List.setIfInBounds_toArray, List.set_cons_zero, List.set_cons_succ]
    refine wpPath_end fun Z3 hb3 => ?_
    go_wp2
    exact ret_rb (g := w.heap.size + 1) rfl rfl rfl rfl (hg.below hb3 hg.lt) ⟨rfl, below_on hb hb3⟩

set_option maxHeartbeats 4000000 in
theorem around_any (a : Option Addr) (n c' : Nat) (ls : List ByteArray) (l c : Int) (b : Nat) (nn : Int) (w : World) (h : Ss w a n c' ls) (hs : ∀ s ∈ ls, s.size ≤ 140737488355328) (hn6 : n ≤ 1000000) (htz : tz ls ≤ 900000) (hnn : nn ≤ 9223372036854775807) :
    Calls Try.prog 11 #[.slice a n c', .agg #[.int .i64 l, .int .i64 c], .int .u8 b, .int .i64 nn] w fun e w' => e = .returned (brV true (brk ls l c b nn)) ∧ Below w.heap.size w w' := by
  obtain ⟨X, hX⟩ : ∃ X, X = (w.alloc (.cells #[.int .i64 l, .int .i64 c] 24)).alloc (.cells #[.int .i64 0, .int .i64 0, .int .i64 0, .int .i64 0, .int .i64 0] 33) := ⟨_, rfl⟩
  have hT : Vb w X l c := by rw [hX]; exact Vb.new w l c
  have hpo := brackets_any a n c' ls l c b nn X (SrcV.below h hT.below) hs hn6 htz hnn
  have p0 := hT.pos.c0
  have p1 := hT.pos.c1
  have HX := Lib.hid hX
  have HT := Lib.hid hT
  clear hX hT
  cases hp : brk ls l c b nn with
  | none =>
    rw [hp] at hpo
    simp only [eW, eU, brV] at hpo ⊢
    clear hp h
    go_enter Try.func11, Try.ntmps11
    go_wp2_with fail
    rw [← HX.out]
    refine hpo.mono ?_
    rintro e w1 ⟨rfl, hb1⟩
    have T1 := HT.out.on hb1
    clear hb1 hpo p0 p1
    go_upto_region 3 with fail
    obtain ⟨Y, hY⟩ : ∃ Y, Y = (w1.alloc (.cells #[.int .i64 0, .int .i64 0] 24)).alloc (.cells #[.int .i64 0, .int .i64 0] 24) := ⟨_, rfl⟩
    obtain ⟨_, _, hbY⟩ := two_pos w1 0 0 0 0
    rw [← hY] at hbY ⊢
    have T2 := T1.on hbY
    clear hY hbY T1
    have r0 := T2.rg.c0
    have r1 := T2.rg.c1
    have r2 := T2.rg.c2
    have r3 := T2.rg.c3
    have r4 := T2.rg.c4
    have z := T2.rg.z
    go_wp2
    obtain ⟨hg, hb⟩ := T2.ret 0 0 0 0 0
    exact ret_rb (g := w.heap.size + 1) rfl rfl rfl rfl hg ⟨rfl, hb⟩
  | some x =>
    have hat := brk_at hp
    obtain ⟨⟨i, k⟩, j, m⟩ := x
    have h1 := hat.k2
    have h2 := hs (lineAt ls j) (by rw [lineAt_get hat.l2]; exact List.getElem_mem hat.l2)
    simp only at h1 h2
    obtain ⟨m1, hk1⟩ : ∃ m1, m1 = m + 1 := ⟨_, rfl⟩
    have haf := fun W => after_any j m m1 W hk1 (by omega)
    rw [hp] at hpo
    have hv : brV true (some ((i, k), j, m)) = .tuple #[rgv 0 i k j m1, .bool true] := by rw [hk1]; rfl
    rw [hv]
    simp only [eW, eU] at hpo
    clear hp h hat h1 h2 hk1 hv
    go_enter Try.func11, Try.ntmps11
    go_wp2_with fail
    rw [← HX.out]
    refine hpo.mono ?_
    rintro e w1 ⟨rfl, hb1⟩
    have T1 := HT.out.on hb1
    clear hb1 hpo p0 p1
    go_upto_region 4 with fail
    obtain ⟨Y, hY⟩ : ∃ Y, Y = (w1.alloc (.cells #[.int .i64 i, .int .i64 k] 24)).alloc (.cells #[.int .i64 j, .int .i64 m] 24) := ⟨_, rfl⟩
    obtain ⟨hA, hB, hbY⟩ := two_pos w1 i k j m
    rw [← hY] at hA hB hbY ⊢
    have T2 := Lib.hid (T1.on hbY)
    have q0 := hA.c0
    have q1 := hA.c1
    have q2 := hB.c0
    have q3 := hB.c1
    have F0 := fun (C : World → Prop) (hC : Grows Y C) (z : In C) => hC.cell q0 z
    have F1 := fun (C : World → Prop) (hC : Grows Y C) (z : In C) => hC.cell q1 z
    have F2 := fun (C : World → Prop) (hC : Grows Y C) (z : In C) => hC.cell q2 z
    have F3 := fun (C : World → Prop) (hC : Grows Y C) (z : In C) => hC.cell q3 z
    clear hY hA hB hbY T1 q0 q1 q2 q3
    refine wp_region_seg [0, 1, 2, 3] [(4, 3), (5, 2)] (by kernel_rfl) (by kernel_rfl) 29 rfl (by kernel_rfl) ?_
    simp only [List.map_cons, List.map_nil, opOf_succ, opOf_zero]
    apply Exists.intro
    refine ⟨fun C hC => ?_, ?_⟩
    · haveI hI := hC.one
      have f0 := F0 C hC
      have f1 := F1 C hC
      have f2 := F2 C hC
      have f3 := F3 C hC
      repeat (go_big_quiet_step (first | (go_at_call 16; exact Calls.in_of hC (haf _))))
      exact wpQuiet_nil rfl
    clear F0 F1 F2 F3 haf
    refine wpPath_store rfl fun Z hZ => ?_
    have T3 := T2.out.on hZ
    refine ⟨_, rfl, run_store_rg T3.rg, ?_⟩
    simp only [opOf_succ, opOf_zero, Act.put, List.setIfInBounds_toArray, List.set_cons_zero, List.set_cons_succ]
    obtain ⟨hg, hb⟩ := T3.ret 0 i k j m1
    obtain ⟨Z2, hZ2⟩ : ∃ Z2, Z2 = putR Z (w.heap.size + 1) 0 i k j m1 := ⟨_, rfl⟩
    rw [← hZ2] at hg hb ⊢
    clear hZ2 hZ T3 T2
    refine wpPath_free (v := .bool true) rfl rfl (fun _ => rfl) ?_
    simp only [opOf_succ, opOf_zero, Act.put, List.setIfInBounds_toArray, List.set_cons_zero, List.set_cons_succ]
    refine wpPath_end fun Z3 hb3 => ?_
    go_wp2
    exact ret_rb (g := w.heap.size + 1) rfl rfl rfl rfl (hg.below hb3 hg.lt) ⟨rfl, below_on hb hb3⟩

end Go.Proofs.Ytbimblfkkmpieaa.Bo
