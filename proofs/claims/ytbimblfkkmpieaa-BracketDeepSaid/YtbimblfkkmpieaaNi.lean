/-
  Package pairobj: inside, after, brackets.
-/
import Derived.Test.YtbimblfkkmpieaaNl
set_option linter.unusedVariables false
set_option linter.unusedSimpArgs false
set_option maxRecDepth 100000
namespace Go.Proofs.Ytbimblfkkmpieaa.Bo
open Go Go.RowKit Go.Proofs.Ytbimblfkkmpieaa.Vk Go.Proofs.Ytbimblfkkmpieaa.Str Go.Proofs.Ytbimblfkkmpieaa.Ln Go.Proofs.Ytbimblfkkmpieaa.Cl Go.Proofs.Ytbimblfkkmpieaa.Mv Go.Proofs.Ytbimblfkkmpieaa.Pr Go.Proofs.Ytbimblfkkmpieaa.Wd
attribute [local go_sem] Oper.semAt_some

theorem vld_pt (ls : List ByteArray) (l c : Int) : So.vld ls 0 l c l c = decide (Plc ls l c) := by
  unfold So.vld
  have hl : So.lt l c l c = false := by unfold So.lt; rw [decide_eq_false_iff_not]; omega
  rw [if_pos rfl, hl]
  by_cases hp : Plc ls l c
  · have h0 := hp.1
    have h1 := hp.2.1
    have hi : So.ins ls l c = true := by unfold So.ins; rw [plc_cl (by omega)]; exact decide_eq_true hp
    rw [hi, decide_eq_true hp, decide_eq_true ⟨h0, Int.le_refl _, h1⟩]; rfl
  · by_cases h0 : 0 ≤ l ∧ l ≤ l ∧ l < ls.length
    · have hi : So.ins ls l c = false := by unfold So.ins; rw [plc_cl (by omega)]; exact decide_eq_false hp
      rw [hi, decide_eq_false hp]; simp
    · rw [decide_eq_false h0, decide_eq_false hp]; rfl

theorem inside_any (a : Option Addr) (n c' : Nat) (ls : List ByteArray) (l c : Int) (w : World) (h : Ss w a n c' ls) (hs : ∀ s ∈ ls, s.size ≤ 140737488355328) :
    Calls Try.prog 22 #[.slice a n c', .agg #[.int .i64 l, .int .i64 c]] w fun e w' => e = .returned (.bool (decide (Wo.On ls l c))) ∧ Below w.heap.size w w' := by
  have hlen := h.length
  obtain ⟨X, hX⟩ : ∃ X, X = w.alloc (.cells #[.int .i64 l, .int .i64 c] 24) := ⟨_, rfl⟩
  have hp : PosAt X w.heap.size l c := by rw [hX]; exact PosAt.new _ _ _
  have hb : Below w.heap.size w X := by rw [hX]; exact (Below.refl _ w).alloc (Nat.le_refl _) _
  have hv := So.valid_any a n c' ls 0 l c l c X (SrcV.below h hb) hs
  rw [vld_pt] at hv
  have p0 := hp.c0
  have p1 := hp.c1
  have HX := Lib.hid hX
  by_cases hP : Plc ls l c
  rotate_left
  · rw [decide_eq_false hP] at hv
    have hv2 : decide (Wo.On ls l c) = false := decide_eq_false (fun h => hP h.plc)
    rw [hv2]
    clear hX hp h hlen hv2 hP
    go_enter Try.func22, Try.ntmps22
    go_wp2_with fail
    rw [← HX.out]
    refine hv.mono ?_
    rintro e w1 ⟨rfl, hb1⟩
    clear hv
    go_wp2
    go_ret
    exact ⟨rfl, hb.trans (hb1.mono hb.size)⟩
  rw [decide_eq_true hP] at hv
  obtain ⟨i, k, rfl, rfl, hi, hk⟩ := hP.nat
  obtain ⟨g, o, rfl, hcx, hnc⟩ := h.read i (by omega)
  have hcx := cell_later hb hcx
  rw [← lineAt_get hi] at hcx
  have b1 : (i : Int) < (n : Int) := by omega
  have hP' := Lib.hid hp
  by_cases hk0 : k = 0
  · have e0 : ((k : Int) == 0) = true := by rw [beq_iff_eq]; omega
    have hv2 : decide (Wo.On ls (i : Int) (k : Int)) = true := decide_eq_true (Wo.On.of hi (by omega))
    rw [hv2]
    clear hX hp h hlen hv2 hP hk hk0
    go_enter Try.func22, Try.ntmps22
    go_wp2_with fail
    rw [← HX.out]
    refine hv.mono ?_
    rintro e w1 ⟨rfl, hb1⟩
    have p0 := cell_later hb1 p0
    have p1 := cell_later hb1 p1
    have hcx := cell_later hb1 hcx
    have f0 := fun z : Gr w1 => z.cell p0
    have f1 := fun z : Gr w1 => z.cell p1
    have f2 := fun z : Gr w1 => z.cell hcx
    clear hv p0 p1 hcx
    go_upto_region 3 with fail
    refine wp_region_grow (by kernel_rfl) (by kernel_rfl) ?_
    repeat (go_big_quiet_step (fail))
    refine wpQuiet_nil ?_
    rintro V ⟨⟨_, hbV⟩, rfl⟩
    clear f0 f1 f2
    go_wp2
    go_ret
    exact ⟨rfl, hb.trans (below_on hb1 hbV |>.mono hb.size)⟩
  · have e0 : ((k : Int) == 0) = false := by rw [beq_eq_false_iff_ne]; omega
    have hv2 : decide (Wo.On ls (i : Int) (k : Int)) = decide (k < (lineAt ls i).size) := decide_eq_decide.2 ⟨fun h => by have := h.2.2.2; rw [Int.toNat_natCast] at this; omega, fun h => Wo.On.of hi (by omega)⟩
    rw [hv2]
    generalize lineAt ls i = st at *
    clear hX hp h hlen hv2 hP hk hk0
    go_enter Try.func22, Try.ntmps22
    go_wp2_with fail
    rw [← HX.out]
    refine hv.mono ?_
    rintro e w1 ⟨rfl, hb1⟩
    have p0 := cell_later hb1 p0
    have p1 := cell_later hb1 p1
    have hcx := cell_later hb1 hcx
    have f0 := fun z : Gr w1 => z.cell p0
    have f1 := fun z : Gr w1 => z.cell p1
    have f2 := fun z : Gr w1 => z.cell hcx
    clear hv p0 p1 hcx
    go_upto_region 3 with fail
    refine wp_region_grow (by kernel_rfl) (by kernel_rfl) ?_
    repeat (go_big_quiet_step (fail))
    refine wpQuiet_nil ?_
    rintro V ⟨⟨_, hbV⟩, rfl⟩
    clear f0 f1 f2
    go_wp2
    go_ret
    exact ⟨rfl, hb.trans (below_on hb1 hbV |>.mono hb.size)⟩

/-- A place is handed back out of its variable. -/
theorem ret_p {fn : Func} {p : Tmp} {a : Act} {w : World} {g : Nat} {l c : Int} {Q : Ending → World → Prop} (hr : fn.results = #[.cell p 24]) (hp : a.tmps.getD p undef = .pointer (some ⟨g, 0, none⟩)) (hd : a.defers = [])
    (hg : PosAt w g l c) (h : Q (.returned (.agg #[.int .i64 l, .int .i64 c])) w) : bodyPost Try.prog fn Q Exit.ret a w :=
  bodyPost_ret (results_cell_row hr _ _ g _ #[.int .i64 l, .int .i64 c] _ _ hp hg Try.underlying24 rfl (by kernel_rfl)) hd h

theorem after_any (l : Int) (k d : Nat) (w : World) (hd : d = k + 1) (h1 : k ≤ 1000000000000000000) :
    Calls Try.prog 16 #[.agg #[.int .i64 l, .int .i64 k]] w fun e w' => e = .returned (.agg #[.int .i64 l, .int .i64 d]) ∧ Below w.heap.size w w' := by
  obtain ⟨X, hX⟩ : ∃ X, X = ((w.alloc (.cells #[.int .i64 l, .int .i64 k] 24)).alloc (.cells #[.int .i64 0, .int .i64 0] 24)) := ⟨_, rfl⟩
  have hT : Tp w X l k := by rw [hX]; exact Tp.new w l k
  have hw : IntKind.i64.wrap ((k : Int) + 1) = (d : Int) := by rw [IntKind.wrap_i64]; omega
  have p0 := hT.pos.c0
  have p1 := hT.pos.c1
  have r0 := hT.res.c0
  have r1 := hT.res.c1
  have z := fun k => frozen_of_row X (w.heap.size + 1) k _ _ hT.res
  have HX := Lib.hid hX
  have HR := Lib.hid (hT.ret l d)
  clear hX hT hd h1
  go_enter Try.func16, Try.ntmps16
  go_upto_region 1 with fail
  rw [← HX.out]
  go_wp2
  obtain ⟨hg, hb⟩ := HR.out
  exact ret_p (g := w.heap.size + 1) rfl rfl rfl hg ⟨rfl, hb⟩

set_option maxHeartbeats 4000000 in
theorem brackets_any (a : Option Addr) (n c' : Nat) (ls : List ByteArray) (l c : Int) (b : Nat) (nn : Int) (w : World) (h : Ss w a n c' ls) (hs : ∀ s ∈ ls, s.size ≤ 140737488355328) (hn6 : n ≤ 1000000) (htz : tz ls ≤ 900000) (hnn : nn ≤ 9223372036854775807) :
    Calls Try.prog 15 #[.slice a n c', .agg #[.int .i64 l, .int .i64 c], .int .u8 b, .int .i64 nn] w fun e w' => e = .returned (eU (eW (brk ls l c b nn))) ∧ Below w.heap.size w w' := by
  obtain ⟨X, hX⟩ : ∃ X, X = ((w.alloc (.cells #[.int .i64 l, .int .i64 c] 24)).alloc (.cells #[.int .i64 0, .int .i64 0] 24)).alloc (.cells #[.int .i64 0, .int .i64 0] 24) := ⟨_, rfl⟩
  obtain ⟨_, e0, e1, e2, hbX⟩ := Wo.three_rows w (.cells #[.int .i64 l, .int .i64 c] 24) (.cells #[.int .i64 0, .int .i64 0] 24) (.cells #[.int .i64 0, .int .i64 0] 24)
  rw [← hX] at e0 e1 e2 hbX
  have hE : Ef w X l c := ⟨e0, e1, e2, hbX⟩
  have HX := Lib.hid hX
  have p0 := hE.pos.c0
  have p1 := hE.pos.c1
  have HE := Lib.hid hE
  clear e0 e1 e2 hX hE
  by_cases hk : kB b = true
  rotate_left
  · rw [brk_kind (by simpa using hk)]
    have hk' : ¬ (b = 40 ∨ b = 91 ∨ b = 123) := by unfold kB at hk; simpa using hk
    have d1 : ((b : Int) == 40) = false := by rw [beq_eq_false_iff_ne]; omega
    have d2 : ((b : Int) == 91) = false := by rw [beq_eq_false_iff_ne]; omega
    have d3 : ((b : Int) == 123) = false := by rw [beq_eq_false_iff_ne]; omega
    have a0 := HE.out.r1.c0
    have a1 := HE.out.r1.c1
    have a2 := HE.out.r2.c0
    have a3 := HE.out.r2.c1
    have y0 := fun k => frozen_of_row X (w.heap.size + 1) k _ _ HE.out.r1
    have y1 := fun k => frozen_of_row X (w.heap.size + 2) k _ _ HE.out.r2
    clear hk hk' h hbX
    go_enter Try.func15, Try.ntmps15
    go_upto_region 1 with fail
    rw [← HX.out]
    go_wp2
    obtain ⟨h1, h2, hb⟩ := HE.out.ret 0 0 0 0
    exact ret_ppt rfl rfl rfl rfl rfl h1 h2 ⟨rfl, hb⟩
  have hin := inside_any a n c' ls l c X (SrcV.below h hbX) hs
  have hen := fun W (hW : Below X.heap.size X W) => encl_any a n c' ls l c b nn W (SrcV.below h (hbX.trans (hW.mono hbX.size))) hs hn6 htz hnn
  have hk' : b = 40 ∨ b = 91 ∨ b = 123 := by unfold kB at hk; simpa using hk
  by_cases hO : Wo.On ls l c
  · rw [brk_on hO]
    rw [decide_eq_true hO] at hin
    generalize eW (enV ls l c b nn) = r at *
    obtain ⟨⟨⟨x1, x2⟩, x3, x4⟩, ok⟩ := r
    clear hk hbX h hO
    rcases hk' with rfl | rfl | rfl
    all_goals
      go_enter Try.func15, Try.ntmps15
      go_wp2_with fail
      rw [← HX.out]
      refine hin.mono ?_
      rintro e w1 ⟨rfl, hb1⟩
      have E1 := HE.out.on hb1
      have p0 := E1.pos.c0
      have p1 := E1.pos.c1
      have hen := hen w1 hb1
      clear hin hb1
      go_wp2_with fail
      refine hen.mono ?_
      rintro e w2 ⟨rfl, hb2⟩
      have E2 := E1.on hb2
      clear hen hb2 E1 p0 p1
      have a0 := E2.r1.c0
      have a1 := E2.r1.c1
      have a2 := E2.r2.c0
      have a3 := E2.r2.c1
      have y0 := fun k => frozen_of_row w2 (w.heap.size + 1) k _ _ E2.r1
      have y1 := fun k => frozen_of_row w2 (w.heap.size + 2) k _ _ E2.r2
      go_wp2
      obtain ⟨h1, h2, hb⟩ := E2.ret x1 x2 x3 x4
      exact ret_ppt rfl rfl rfl rfl rfl h1 h2 ⟨rfl, hb⟩
  · rw [brk_off hO]
    rw [decide_eq_false hO] at hin
    clear hk hbX h hO hen
    rcases hk' with rfl | rfl | rfl
    all_goals
      go_enter Try.func15, Try.ntmps15
      go_wp2_with fail
      rw [← HX.out]
      refine hin.mono ?_
      rintro e w1 ⟨rfl, hb1⟩
      have E1 := HE.out.on hb1
      clear hin hb1 p0 p1
      have a0 := E1.r1.c0
      have a1 := E1.r1.c1
      have a2 := E1.r2.c0
      have a3 := E1.r2.c1
      have y0 := fun k => frozen_of_row w1 (w.heap.size + 1) k _ _ E1.r1
      have y1 := fun k => frozen_of_row w1 (w.heap.size + 2) k _ _ E1.r2
      go_wp2
      obtain ⟨h1, h2, hb⟩ := E1.ret 0 0 0 0
      exact ret_ppt rfl rfl rfl rfl rfl h1 h2 ⟨rfl, hb⟩
end Go.Proofs.Ytbimblfkkmpieaa.Bo
