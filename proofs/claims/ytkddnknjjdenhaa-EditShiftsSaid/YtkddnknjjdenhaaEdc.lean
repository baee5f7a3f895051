/-
  Package edit: Cut of a range of bytes; Over where there are fewer bytes.
-/
import Derived.Test.YtkddnknjjdenhaaEdk
set_option linter.unusedVariables false
set_option linter.unusedSimpArgs false
set_option maxRecDepth 100000
namespace Go.Proofs.Ytkddnknjjdenhaa.Ed
open Go Go.RowKit Go.Proofs.Ytkddnknjjdenhaa.Vk Go.Proofs.Ytkddnknjjdenhaa.Str Go.Proofs.Ytkddnknjjdenhaa.Ln Go.Proofs.Ytkddnknjjdenhaa.Cl Go.Proofs.Ytkddnknjjdenhaa.Mv
attribute [local go_sem] Oper.semAt_some

abbrev TG : TypeId := 48
def RgAt (w : World) (g : Nat) (k fl fc tl tc : Int) : Prop := w.heap[g]? = some (.cells #[.int .i64 k, .int .i64 fl, .int .i64 fc, .int .i64 tl, .int .i64 tc] TG (0, 0))
section
variable {w w' : World} {g B : Nat} {k fl fc tl tc : Int}
theorem RgAt.below (h : RgAt w g k fl fc tl tc) (hb : Below B w w') (hg : g < B) : RgAt w' g k fl fc tl tc := (hb.block g hg).trans h
theorem RgAt.fr {S : Nat → Prop} (h : RgAt w g k fl fc tl tc) (hf : Fr S w w') (hg : ¬ S g) : RgAt w' g k fl fc tl tc := (hf.block g (Array.getElem?_eq_some_iff.1 h).1 hg).trans h
theorem RgAt.lt (h : RgAt w g k fl fc tl tc) : g < w.heap.size := (Array.getElem?_eq_some_iff.1 h).1
theorem RgAt.c0 (h : RgAt w g k fl fc tl tc) : w.cell? ⟨g, 0, none⟩ = some (.int .i64 k) := (cell_of_row w _ 0 _ _ _ h).trans (by simp)
theorem RgAt.c1 (h : RgAt w g k fl fc tl tc) : w.cell? ⟨g, 1, none⟩ = some (.int .i64 fl) := (cell_of_row w _ 1 _ _ _ h).trans (by simp)
theorem RgAt.c2 (h : RgAt w g k fl fc tl tc) : w.cell? ⟨g, 2, none⟩ = some (.int .i64 fc) := (cell_of_row w _ 2 _ _ _ h).trans (by simp)
theorem RgAt.c3 (h : RgAt w g k fl fc tl tc) : w.cell? ⟨g, 3, none⟩ = some (.int .i64 tl) := (cell_of_row w _ 3 _ _ _ h).trans (by simp)
theorem RgAt.c4 (h : RgAt w g k fl fc tl tc) : w.cell? ⟨g, 4, none⟩ = some (.int .i64 tc) := (cell_of_row w _ 4 _ _ _ h).trans (by simp)
theorem RgAt.new (w : World) (k fl fc tl tc : Int) : RgAt (w.alloc (.cells #[.int .i64 k, .int .i64 fl, .int .i64 fc, .int .i64 tl, .int .i64 tc] TG)) w.heap.size k fl fc tl tc := heap_alloc_new w _
end
/-- A range in a new variable, and a variable for the answer. -/
structure Rq (w V : World) (k fl fc tl tc : Int) : Prop where
  below : Below w.heap.size w V
  rg : RgAt V w.heap.size k fl fc tl tc
  ch : ChAt V (w.heap.size + 1) (0, (none, 0, 0), (none, 0, 0))
section
variable {w V V' : World} {k fl fc tl tc : Int}
theorem Rq.on (h : Rq w V k fl fc tl tc) (hb : Below V.heap.size V V') : Rq w V' k fl fc tl tc := ⟨below_on h.below hb, h.rg.below hb h.rg.lt, h.ch.below hb h.ch.lt⟩
theorem Rq.new (w : World) (k fl fc tl tc : Int) : Rq w ((w.alloc (.cells #[.int .i64 k, .int .i64 fl, .int .i64 fc, .int .i64 tl, .int .i64 tc] TG)).alloc (.cells #[.int .i64 0, .slice none 0 0, .slice none 0 0] TC)) k fl fc tl tc := by
  refine ⟨below_on (one_below _ _) (one_below _ _), (RgAt.new w k fl fc tl tc).below (one_below _ _) (by simp), ?_⟩
  have h := ChAt.new (w.alloc (.cells #[.int .i64 k, .int .i64 fl, .int .i64 fc, .int .i64 tl, .int .i64 tc] TG)) (0, (none, 0, 0), (none, 0, 0))
  rw [show (w.alloc (.cells #[.int .i64 k, .int .i64 fl, .int .i64 fc, .int .i64 tl, .int .i64 tc] TG)).heap.size = w.heap.size + 1 by simp] at h
  exact h
end
/-- What is handed back when the change has been stored. -/
theorem Rq.put {w V : World} {k fl fc tl tc : Int} (h : Rq w V k fl fc tl tc) {y : Rw} {c : Ch} (hc : CW V y c) :
    ChAt (putC V (w.heap.size + 1) y) (w.heap.size + 1) y ∧ CW (putC V (w.heap.size + 1) y) y c ∧ Below w.heap.size w (putC V (w.heap.size + 1) y) :=
  ⟨h.ch.set y, CW.putC hc h.ch, putC_below h.below (by omega) y⟩

set_option maxHeartbeats 2000000 in
theorem cut_char (a : Option Addr) (n c' : Nat) (ls : List ByteArray) (fl fc tl tc : Nat) (w : World) (h : Ss w a n c' ls) (hs : ∀ s ∈ ls, s.size ≤ 140737488355328) (hn : n ≤ 1000000) (hv : So.vld ls 0 fl fc tl tc = true)
    (hft : fl ≤ tl) (htn : tl < n) (hfc : fc ≤ (lineAt ls fl).size) (htc : tc ≤ (lineAt ls tl).size) :
    Calls Try.prog 28 #[.slice a n c', .agg #[.int .i64 0, .int .i64 fl, .int .i64 fc, .int .i64 tl, .int .i64 tc]] w fun e w' =>
      CbOut w ((fl, cutL ls fl tl, [(lineAt ls fl).extract 0 fc ++ (lineAt ls tl).extract tc (lineAt ls tl).size]), true) e w' := by
  have hlen := h.length
  obtain ⟨X, hX⟩ : ∃ X, X = (w.alloc (.cells #[.int .i64 0, .int .i64 fl, .int .i64 fc, .int .i64 tl, .int .i64 tc] TG)).alloc (.cells #[.int .i64 0, .slice none 0 0, .slice none 0 0] TC) := ⟨_, rfl⟩
  have hq : Rq w X 0 fl fc tl tc := by rw [hX]; exact Rq.new w 0 fl fc tl tc
  have hva := So.valid_any a n c' ls 0 fl fc tl tc X (SrcV.below h hq.below) hs
  rw [hv] at hva
  obtain ⟨b, o, rfl, h1, _⟩ := Ss.read h fl (by omega)
  obtain ⟨b', o', he, h2, _⟩ := Ss.read h tl (by omega)
  simp only [Option.some.injEq, Addr.mk.injEq, and_true] at he
  obtain ⟨rfl, rfl⟩ := he
  rw [← lineAt_get (by omega)] at h1 h2
  have z1 : (lineAt ls fl).size ≤ 140737488355328 := hs _ (by rw [lineAt_get (by omega)]; exact List.getElem_mem _)
  have z2 : (lineAt ls tl).size ≤ 140737488355328 := hs _ (by rw [lineAt_get (by omega)]; exact List.getElem_mem _)
  have H := Lib.hid (And.intro (show X = (w.alloc (.cells #[.int .i64 0, .int .i64 fl, .int .i64 fc, .int .i64 tl, .int .i64 tc] 48)).alloc (.cells #[.int .i64 0, .slice none 0 0, .slice none 0 0] 31) from hX) (And.intro hq h))
  have h1X := cell_later hq.below h1
  have h2X := cell_later hq.below h2
  obtain ⟨s1, hs1⟩ : ∃ s1, s1 = lineAt ls fl := ⟨_, rfl⟩
  obtain ⟨s2, hs2⟩ : ∃ s2, s2 = lineAt ls tl := ⟨_, rfl⟩
  rw [← hs1] at hfc z1 h1X
  rw [← hs2] at htc z2 h2X
  rw [← hs1, ← hs2]
  have g1 : (fl : Int) < (n : Int) := by omega
  have g2 : (tl : Int) < (n : Int) := by omega
  clear hX hq h hs hv h1 h2 hs1 hs2
  go_enter Try.func28, Try.ntmps28
  go_wp2_with fail
  rw [← H.out.1]
  refine hva.mono ?_
  rintro e w1 ⟨rfl, hb1⟩
  have hq1 := H.out.2.1.on hb1
  have r0 := hq1.rg.c0
  have r1 := hq1.rg.c1
  have r2 := hq1.rg.c2
  have r3 := hq1.rg.c3
  have r4 := hq1.rg.c4
  have y1 := cell_later hb1 h1X
  have y2 := cell_later hb1 h2X
  have HQ := Lib.hid hq1
  clear hva hb1 hq1 h1X h2X
  go_wp2
  go_quiet (fail)
  go_wp2
  obtain ⟨w2, hw2⟩ : ∃ w2, w2 = w1.drewN nq := ⟨_, rfl⟩
  have hb2 : Below w1.heap.size w1 w2 := by rw [hw2]; exact drewN_below _ _
  rw [← hw2]
  have hq2 := HQ.out.on hb2
  have y1 := cell_later hb2 y1
  have y2 := cell_later hb2 y2
  clear r0 r1 r2 r3 r4 hw2 hb2
  have r2 := hq2.rg.c2
  have r4 := hq2.rg.c4
  have HQ2 := Lib.hid hq2
  clear hq2 HQ
  have F_0 := fun (C : World → Prop) (hC : Grows w2 C) (z : In C) => hC.cell y1 z
  have F_1 := fun (C : World → Prop) (hC : Grows w2 C) (z : In C) => hC.cell y2 z
  have F_2 := fun (C : World → Prop) (hC : Grows w2 C) (z : In C) => hC.cell r2 z
  have F_3 := fun (C : World → Prop) (hC : Grows w2 C) (z : In C) => hC.cell r4 z
  refine wp_region_seg [0, 1, 2, 3, 4, 5, 6, 7, 8, 9, 10, 11, 12, 13, 14, 15, 16] [(17, 1), (18, 2)] (by kernel_rfl) (by kernel_rfl) 62 rfl (by kernel_rfl) ?_
  simp only [List.map_cons, List.map_nil, opOf_succ, opOf_zero]
  apply Exists.intro
  refine ⟨fun C hC => ?_, ?_⟩
  · haveI hI := hC.one
    have f_0 := F_0 C hC
    have f_1 := F_1 C hC
    have f_2 := F_2 C hC
    have f_3 := F_3 C hC
    repeat (go_big_quiet_step (fail))
    exact wpQuiet_nil rfl
  clear F_0 F_1 F_2 F_3
  refine wpPath_make rfl fun u hu => ?_
  refine ⟨.slice (some ⟨u.heap.size, 0, none⟩) 1 1, u.alloc (.cells #[.string (s1.extract 0 fc ++ s2.extract tc s2.size)] ES), rfl, by simp only [opOf_succ, opOf_zero]; kernel_rfl, one_below _ _, ?_⟩
  simp only [opOf_succ, opOf_zero, Act.put, List.setIfInBounds_toArray, List.set_cons_zero, List.set_cons_succ]
  refine wpPath_free (v := .slice (some ⟨u.heap.size, 0, none⟩) 1 1) rfl rfl (fun W => by simp only [opOf_succ, opOf_zero]; go_simp) ?_
  simp only [opOf_succ, opOf_zero, Act.put, List.setIfInBounds_toArray, List.set_cons_zero, List.set_cons_succ]
  refine wpPath_end fun A hA => ?_
  have hlit : Ss A (some ⟨u.heap.size, 0, none⟩) 1 1 [s1.extract 0 fc ++ s2.extract tc s2.size] :=
    SrcV.below (SrcV.lit u #[.string (s1.extract 0 fc ++ s2.extract tc s2.size)] ES 1 rfl (by simp [Value.oneCell']) (by simp [maxLen])) hA
  have hq3 := HQ2.out.on (below_on hu (below_on (one_below _ _) hA))
  have hrep := replaced_any (some ⟨b, o, none⟩) n c' ls fl tl (some ⟨u.heap.size, 0, none⟩) 1 1 [s1.extract 0 fc ++ s2.extract tc s2.size] A (SrcV.below H.out.2.2 hq3.below) hlit hft htn hn
  have HQ3 := Lib.hid hq3
  obtain ⟨g5, hg5⟩ : ∃ g5, g5 = u.heap.size := ⟨_, rfl⟩
  rw [← hg5] at hrep
  rw [← hg5]
  clear y1 y2 r2 r4 HQ2 hlit hq3 hu hA hg5
  go_wp2_with fail
  refine hrep.mono ?_
  rintro e w4 ⟨⟨f, ⟨oa, on, oc⟩, na, nn, nc⟩, rfl, hcw, hb4⟩
  simp only [cv, sv]
  have hq5 := HQ3.out.on hb4
  have m0 := hq5.ch.c0
  have m1 : w4.cell? ⟨w.heap.size + 1, 1, none⟩ = some (.slice none 0 0) := hq5.ch.c1
  have m2 : w4.cell? ⟨w.heap.size + 1, 2, none⟩ = some (.slice none 0 0) := hq5.ch.c2
  have z := hq5.ch.z
  have HE := Lib.hid (hq5.put hcw)
  clear hrep hcw hb4 hq5
  go_wp2
  exact ret_cb (g := w.heap.size + 1) rfl rfl rfl rfl HE.out.1 ⟨_, rfl, HE.out.2.1, HE.out.2.2⟩

/-- The parameter's place and a variable for the answer. -/
structure Pq (w V : World) (l c : Int) : Prop where
  below : Below w.heap.size w V
  pos : PosAt V w.heap.size l c
  ch : ChAt V (w.heap.size + 1) (0, (none, 0, 0), (none, 0, 0))
section
variable {w V V' : World} {l c : Int}
theorem Pq.on (h : Pq w V l c) (hb : Below V.heap.size V V') : Pq w V' l c := ⟨below_on h.below hb, h.pos.below hb h.pos.lt, h.ch.below hb h.ch.lt⟩
theorem Pq.new (w : World) (l c : Int) : Pq w ((w.alloc (.cells #[.int .i64 l, .int .i64 c] 24)).alloc (.cells #[.int .i64 0, .slice none 0 0, .slice none 0 0] TC)) l c := by
  refine ⟨below_on (one_below _ _) (one_below _ _), (PosAt.new w l c).below (one_below _ _) (by simp), ?_⟩
  have h := ChAt.new (w.alloc (.cells #[.int .i64 l, .int .i64 c] 24)) (0, (none, 0, 0), (none, 0, 0))
  rw [show (w.alloc (.cells #[.int .i64 l, .int .i64 c] 24)).heap.size = w.heap.size + 1 by simp] at h
  exact h
theorem Pq.put (h : Pq w V l c) {y : Rw} {d : Ch} (hc : CW V y d) :
    ChAt (putC V (w.heap.size + 1) y) (w.heap.size + 1) y ∧ CW (putC V (w.heap.size + 1) y) y d ∧ Below w.heap.size w (putC V (w.heap.size + 1) y) :=
  ⟨h.ch.set y, CW.putC hc h.ch, putC_below h.below (by omega) y⟩
end
/-- May so many bytes be written over? -/
def oOk (ls : List ByteArray) (l c n : Int) : Prop := Plc ls l c ∧ 1 ≤ n ∧ n ≤ ((lineAt ls l.toNat).size : Int) - c
instance (ls : List ByteArray) (l c n : Int) : Decidable (oOk ls l c n) := by unfold oOk; infer_instance
set_option maxHeartbeats 2000000 in
theorem over_no (a : Option Addr) (n c' : Nat) (ls : List ByteArray) (l c x m : Int) (w : World) (h : Ss w a n c' ls) (hs : ∀ s ∈ ls, s.size ≤ 140737488355328) (hok : ¬ oOk ls l c m) :
    Calls Try.prog 16 #[.slice a n c', .agg #[.int .i64 l, .int .i64 c], .int .u8 x, .int .i64 m] w fun e w' => CbOut w ((0, [], []), false) e w' := by
  have hlen := h.length
  obtain ⟨X, hX⟩ : ∃ X, X = (w.alloc (.cells #[.int .i64 l, .int .i64 c] 24)).alloc (.cells #[.int .i64 0, .slice none 0 0, .slice none 0 0] TC) := ⟨_, rfl⟩
  have hq : Pq w X l c := by rw [hX]; exact Pq.new w l c
  have hin := fun z : Gr X => inside_any a n c' ls l c z.W (SrcV.below (SrcV.below h hq.below) z.below) hs
  have f0 := fun z : Gr X => z.cell hq.pos.c0
  have f1 := fun z : Gr X => z.cell hq.pos.c1
  have H := Lib.hid (And.intro (show X = (w.alloc (.cells #[.int .i64 l, .int .i64 c] 24)).alloc (.cells #[.int .i64 0, .slice none 0 0, .slice none 0 0] 31) from hX) hq)
  by_cases hp : Plc ls l c
  · rw [decide_eq_true hp] at hin
    by_cases h1 : 1 ≤ m
    · obtain ⟨i, k, rfl, rfl, hi, hk⟩ := hp.nat
      obtain ⟨b, o, rfl, hcx, hnc, _⟩ := Ss.read h i hi
      rw [← lineAt_get hi] at hcx
      have hsz := hs (lineAt ls i) (by rw [lineAt_get hi]; exact List.getElem_mem hi)
      have hcx := cell_later hq.below hcx
      have hlt : (((lineAt ls i).size : Int)) - (k : Int) < m := by
        have h2 : ¬ (m ≤ ((lineAt ls ((i : Int)).toNat).size : Int) - (k : Int)) := fun h3 => hok ⟨hp, h1, h3⟩
        rw [Int.toNat_natCast] at h2
        omega
      obtain ⟨st, hst⟩ : ∃ st, st = lineAt ls i := ⟨_, rfl⟩
      rw [← hst] at hcx hsz hk hlt
      have f2 := fun z : Gr X => z.cell hcx
      have e1 : IntKind.i64.wrap ((st.size : Int) - (k : Int)) = (st.size : Int) - (k : Int) := by rw [IntKind.wrap_i64]; omega
      have e2 : (i : Int) < (n : Int) := by omega
      have d1 : decide (m < 1) = false := decide_eq_false (by omega)
      have d2 : decide ((st.size : Int) - (k : Int) < m) = true := decide_eq_true hlt
      clear hX hq h hs hok hp hst hcx
      go_enter Try.func16, Try.ntmps16
      go_wp2
      rw [← H.out.1]
      refine wp_region_grow (by kernel_rfl) (by kernel_rfl) ?_
      repeat (go_big_quiet_step (first | (go_at_call 31; exact Calls.grow_of (hin _))))
      refine wpQuiet_nil ?_
      rintro w2 ⟨⟨w2', hb2⟩, he⟩
      simp only at he
      subst he
      have hq2 := H.out.2.on hb2
      clear hin f0 f1
      have m0 := hq2.ch.c0
      have m1 : w2.cell? ⟨w.heap.size + 1, 1, none⟩ = some (.slice none 0 0) := hq2.ch.c1
      have m2 : w2.cell? ⟨w.heap.size + 1, 2, none⟩ = some (.slice none 0 0) := hq2.ch.c2
      have z := hq2.ch.z
      have HE := Lib.hid (hq2.put (CW.zero w2))
      clear hb2 hq2
      go_wp2
      exact ret_cb (g := w.heap.size + 1) rfl rfl rfl rfl HE.out.1 ⟨_, rfl, HE.out.2.1, HE.out.2.2⟩
    · have d1 : decide (m < 1) = true := decide_eq_true (by omega)
      clear hX hq h hs hok hp h1
      go_enter Try.func16, Try.ntmps16
      go_wp2
      rw [← H.out.1]
      refine wp_region_grow (by kernel_rfl) (by kernel_rfl) ?_
      repeat (go_big_quiet_step (first | (go_at_call 31; exact Calls.grow_of (hin _))))
      refine wpQuiet_nil ?_
      rintro w2 ⟨⟨w2', hb2⟩, he⟩
      simp only at he
      subst he
      have hq2 := H.out.2.on hb2
      clear hin f0 f1
      have m0 := hq2.ch.c0
      have m1 : w2.cell? ⟨w.heap.size + 1, 1, none⟩ = some (.slice none 0 0) := hq2.ch.c1
      have m2 : w2.cell? ⟨w.heap.size + 1, 2, none⟩ = some (.slice none 0 0) := hq2.ch.c2
      have z := hq2.ch.z
      have HE := Lib.hid (hq2.put (CW.zero w2))
      clear hb2 hq2
      go_wp2
      exact ret_cb (g := w.heap.size + 1) rfl rfl rfl rfl HE.out.1 ⟨_, rfl, HE.out.2.1, HE.out.2.2⟩
  · rw [decide_eq_false hp] at hin
    clear hX hq h hs hok hp
    go_enter Try.func16, Try.ntmps16
    go_wp2
    rw [← H.out.1]
    refine wp_region_grow (by kernel_rfl) (by kernel_rfl) ?_
    repeat (go_big_quiet_step (first | (go_at_call 31; exact Calls.grow_of (hin _))))
    refine wpQuiet_nil ?_
    rintro w2 ⟨⟨w2', hb2⟩, he⟩
    simp only at he
    subst he
    have hq2 := H.out.2.on hb2
    clear hin f0 f1
    have m0 := hq2.ch.c0
    have m1 : w2.cell? ⟨w.heap.size + 1, 1, none⟩ = some (.slice none 0 0) := hq2.ch.c1
    have m2 : w2.cell? ⟨w.heap.size + 1, 2, none⟩ = some (.slice none 0 0) := hq2.ch.c2
    have z := hq2.ch.z
    have HE := Lib.hid (hq2.put (CW.zero w2))
    clear hb2 hq2
    go_wp2
    exact ret_cb (g := w.heap.size + 1) rfl rfl rfl rfl HE.out.1 ⟨_, rfl, HE.out.2.1, HE.out.2.2⟩
set_option maxHeartbeats 2000000 in
theorem over19_no (a : Option Addr) (n c' : Nat) (ls : List ByteArray) (l c x m : Int) (w : World) (h : Ss w a n c' ls) (hs : ∀ s ∈ ls, s.size ≤ 140737488355328) (hok : ¬ oOk ls l c m) :
    Calls Try.prog 17 #[.slice a n c', .agg #[.int .i64 l, .int .i64 c], .int .u8 x, .int .i64 m] w fun e w' => CbOut w ((0, [], []), false) e w' := by
  have hlen := h.length
  obtain ⟨X, hX⟩ : ∃ X, X = (w.alloc (.cells #[.int .i64 l, .int .i64 c] 24)).alloc (.cells #[.int .i64 0, .slice none 0 0, .slice none 0 0] TC) := ⟨_, rfl⟩
  have hq : Pq w X l c := by rw [hX]; exact Pq.new w l c
  have hin := fun z : Gr X => place5_any a n c' ls l c z.W (SrcV.below (SrcV.below h hq.below) z.below)
  have f0 := fun z : Gr X => z.cell hq.pos.c0
  have f1 := fun z : Gr X => z.cell hq.pos.c1
  have H := Lib.hid (And.intro (show X = (w.alloc (.cells #[.int .i64 l, .int .i64 c] 24)).alloc (.cells #[.int .i64 0, .slice none 0 0, .slice none 0 0] 31) from hX) hq)
  by_cases hp : Plc ls l c
  · rw [decide_eq_true hp] at hin
    by_cases h1 : 1 ≤ m
    · obtain ⟨i, k, rfl, rfl, hi, hk⟩ := hp.nat
      obtain ⟨b, o, rfl, hcx, hnc, _⟩ := Ss.read h i hi
      rw [← lineAt_get hi] at hcx
      have hsz := hs (lineAt ls i) (by rw [lineAt_get hi]; exact List.getElem_mem hi)
      have hcx := cell_later hq.below hcx
      have hlt : (((lineAt ls i).size : Int)) - (k : Int) < m := by
        have h2 : ¬ (m ≤ ((lineAt ls ((i : Int)).toNat).size : Int) - (k : Int)) := fun h3 => hok ⟨hp, h1, h3⟩
        rw [Int.toNat_natCast] at h2
        omega
      obtain ⟨st, hst⟩ : ∃ st, st = lineAt ls i := ⟨_, rfl⟩
      rw [← hst] at hcx hsz hk hlt
      have f2 := fun z : Gr X => z.cell hcx
      have e1 : IntKind.i64.wrap ((st.size : Int) - (k : Int)) = (st.size : Int) - (k : Int) := by rw [IntKind.wrap_i64]; omega
      have e2 : (i : Int) < (n : Int) := by omega
      have d1 : decide (m < 1) = false := decide_eq_false (by omega)
      have d2 : decide ((st.size : Int) - (k : Int) < m) = true := decide_eq_true hlt
      clear hX hq h hs hok hp hst hcx
      go_enter Try.func17, Try.ntmps17
      go_wp2
      rw [← H.out.1]
      refine wp_region_grow (by kernel_rfl) (by kernel_rfl) ?_
      repeat (go_big_quiet_step (first | (go_at_call 34; exact Calls.grow_of (hin _))))
      refine wpQuiet_nil ?_
      rintro w2 ⟨⟨w2', hb2⟩, he⟩
      simp only at he
      subst he
      have hq2 := H.out.2.on hb2
      clear hin f0 f1
      have HQ := Lib.hid hq2
      clear hb2 hq2
      have hno := none_any w2
      go_wp2_with fail
      refine hno.mono ?_
      rintro e w3 ⟨⟨f, ⟨oa, on, oc⟩, na, nn, nc⟩, rfl, hcw, hb3⟩
      have hq3 := HQ.out.on hb3
      have m0 := hq3.ch.c0
      have m1 : w3.cell? ⟨w.heap.size + 1, 1, none⟩ = some (.slice none 0 0) := hq3.ch.c1
      have m2 : w3.cell? ⟨w.heap.size + 1, 2, none⟩ = some (.slice none 0 0) := hq3.ch.c2
      have z := hq3.ch.z
      have HE := Lib.hid (hq3.put hcw)
      simp only [cv, sv]
      clear hb3 hq3 hcw hno
      go_wp2
      exact ret_cb (g := w.heap.size + 1) rfl rfl rfl rfl HE.out.1 ⟨_, rfl, HE.out.2.1, HE.out.2.2⟩
    · have d1 : decide (m < 1) = true := decide_eq_true (by omega)
      clear hX hq h hs hok hp h1
      go_enter Try.func17, Try.ntmps17
      go_wp2
      rw [← H.out.1]
      refine wp_region_grow (by kernel_rfl) (by kernel_rfl) ?_
      repeat (go_big_quiet_step (first | (go_at_call 34; exact Calls.grow_of (hin _))))
      refine wpQuiet_nil ?_
      rintro w2 ⟨⟨w2', hb2⟩, he⟩
      simp only at he
      subst he
      have hq2 := H.out.2.on hb2
      clear hin f0 f1
      have HQ := Lib.hid hq2
      clear hb2 hq2
      have hno := none_any w2
      go_wp2_with fail
      refine hno.mono ?_
      rintro e w3 ⟨⟨f, ⟨oa, on, oc⟩, na, nn, nc⟩, rfl, hcw, hb3⟩
      have hq3 := HQ.out.on hb3
      have m0 := hq3.ch.c0
      have m1 : w3.cell? ⟨w.heap.size + 1, 1, none⟩ = some (.slice none 0 0) := hq3.ch.c1
      have m2 : w3.cell? ⟨w.heap.size + 1, 2, none⟩ = some (.slice none 0 0) := hq3.ch.c2
      have z := hq3.ch.z
      have HE := Lib.hid (hq3.put hcw)
      simp only [cv, sv]
      clear hb3 hq3 hcw hno
      go_wp2
      exact ret_cb (g := w.heap.size + 1) rfl rfl rfl rfl HE.out.1 ⟨_, rfl, HE.out.2.1, HE.out.2.2⟩
  · rw [decide_eq_false hp] at hin
    clear hX hq h hs hok hp
    go_enter Try.func17, Try.ntmps17
    go_wp2
    rw [← H.out.1]
    refine wp_region_grow (by kernel_rfl) (by kernel_rfl) ?_
    repeat (go_big_quiet_step (first | (go_at_call 34; exact Calls.grow_of (hin _))))
    refine wpQuiet_nil ?_
    rintro w2 ⟨⟨w2', hb2⟩, he⟩
    simp only at he
    subst he
    have hq2 := H.out.2.on hb2
    clear hin f0 f1
    have HQ := Lib.hid hq2
    clear hb2 hq2
    have hno := none_any w2
    go_wp2_with fail
    refine hno.mono ?_
    rintro e w3 ⟨⟨f, ⟨oa, on, oc⟩, na, nn, nc⟩, rfl, hcw, hb3⟩
    have hq3 := HQ.out.on hb3
    have m0 := hq3.ch.c0
    have m1 : w3.cell? ⟨w.heap.size + 1, 1, none⟩ = some (.slice none 0 0) := hq3.ch.c1
    have m2 : w3.cell? ⟨w.heap.size + 1, 2, none⟩ = some (.slice none 0 0) := hq3.ch.c2
    have z := hq3.ch.z
    have HE := Lib.hid (hq3.put hcw)
    simp only [cv, sv]
    clear hb3 hq3 hcw hno
    go_wp2
    exact ret_cb (g := w.heap.size + 1) rfl rfl rfl rfl HE.out.1 ⟨_, rfl, HE.out.2.1, HE.out.2.2⟩
end Go.Proofs.Ytkddnknjjdenhaa.Ed
