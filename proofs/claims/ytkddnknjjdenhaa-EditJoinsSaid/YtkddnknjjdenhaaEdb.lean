/-
  Package edit: inside; the document's none and over; two changes held against one another (foolscaphelp.Change, the laws' same).
-/
import Derived.Test.YtkddnknjjdenhaaEda
set_option linter.unusedVariables false
set_option linter.unusedSimpArgs false
set_option maxRecDepth 100000
namespace Go.Proofs.Ytkddnknjjdenhaa.Ed
open Go Go.RowKit Go.Proofs.Ytkddnknjjdenhaa.Vk Go.Proofs.Ytkddnknjjdenhaa.Str Go.Proofs.Ytkddnknjjdenhaa.Ln Go.Proofs.Ytkddnknjjdenhaa.Cl Go.Proofs.Ytkddnknjjdenhaa.Mv
attribute [local go_sem] Oper.semAt_some

theorem ins_plc {ls : List ByteArray} (l c : Int) (h0 : 0 < ls.length) : (decide ((clL ls l : Int) = l) && decide ((clC ls l c true : Int) = c)) = decide (Plc ls l c) := by
  rw [Bool.eq_iff_iff]
  simp only [Bool.and_eq_true, decide_eq_true_eq]
  unfold Plc clC clL
  constructor
  · rintro ⟨h1, h2⟩
    have e : cl ls.length l = l.toNat := by omega
    rw [e] at h2
    unfold cl at h1
    unfold cl top at h2
    rw [if_pos rfl] at h2
    omega
  · rintro ⟨h1, h2, h3, h4⟩
    have e : cl ls.length l = l.toNat := by unfold cl; omega
    rw [e]
    unfold cl top
    rw [if_pos rfl]
    omega

theorem inside_any (a : Option Addr) (n c' : Nat) (ls : List ByteArray) (l c : Int) (w : World) (h : Ss w a n c' ls) (hs : ∀ s ∈ ls, s.size ≤ 140737488355328) :
    Calls Try.prog 31 #[.slice a n c', .agg #[.int .i64 l, .int .i64 c]] w fun e w' => e = .returned (.bool (decide (Plc ls l c))) ∧ Below w.heap.size w w' := by
  have hlen := h.length
  obtain ⟨X, hX⟩ : ∃ X, X = w.alloc (.cells #[.int .i64 l, .int .i64 c] 24) := ⟨_, rfl⟩
  have hb0 : Below w.heap.size w X := by rw [hX]; exact (Below.refl _ w).alloc (Nat.le_refl _) _
  have HX := Lib.hid hX
  have HB := Lib.hid hb0
  by_cases h0 : 0 < n
  · have q0 : X.cell? ⟨w.heap.size, 0, none⟩ = some (.int .i64 l) := by rw [hX, World.cell?_alloc_at (hn := by simp)]; rfl
    have q1 : X.cell? ⟨w.heap.size, 1, none⟩ = some (.int .i64 c) := by rw [hX, World.cell?_alloc_at (hn := by simp)]; rfl
    have f0 := fun z : Gr X => z.cell q0
    have f1 := fun z : Gr X => z.cell q1
    have hx := SrcV.below h hb0
    have h5 := fun z : Gr X => clamp_any a n c' ls l c true z.W (SrcV.below hx z.below) hs
    have he := fun W => So.eq_pos (clL ls l) (clC ls l c true) l c W
    rw [ins_plc l c (by omega)] at he
    have hd : decide (0 < n) = true := decide_eq_true h0
    generalize decide (Plc ls l c) = q at *
    clear h hx q0 q1 hX hb0 hs
    go_enter Try.func31, Try.ntmps31
    go_wp2
    rw [← HX.out]
    refine wp_region_grow (by kernel_rfl) (by kernel_rfl) ?_
    repeat (go_big_quiet_step (first | (go_at_call 52; exact Calls.grow_of (h5 _))))
    refine wpQuiet_nil ?_
    rintro _ ⟨⟨X5, hX5⟩, rfl⟩
    go_wp2
    go_ret
    exact ⟨rfl, HB.out.trans (hX5.mono HB.out.size)⟩
  · obtain rfl : n = 0 := by omega
    obtain rfl : ls = [] := List.length_eq_zero_iff.1 hlen
    have hd : decide (Plc [] l c) = false := decide_eq_false fun hp => by have h1 := hp.1; have h2 := hp.2.1; simp at h2; omega
    rw [hd]
    clear h hX hb0 hs hd h0
    go_enter Try.func31, Try.ntmps31
    go_wp2
    rw [← HX.out]
    refine wp_region_grow (by kernel_rfl) (by kernel_rfl) ?_
    repeat (go_big_quiet_step (fail))
    refine wpQuiet_nil ?_
    rintro _ ⟨⟨X5, hX5⟩, rfl⟩
    go_wp2
    go_ret
    exact ⟨rfl, HB.out.trans (hX5.mono HB.out.size)⟩

theorem none_any (w : World) : Calls Try.prog 37 #[] w fun e w' => CbOut w ((0, [], []), false) e w' := by
  obtain ⟨w1, hw1⟩ : ∃ w1, w1 = w.alloc (.cells #[.int .i64 0, .slice none 0 0, .slice none 0 0] TC) := ⟨_, rfl⟩
  obtain ⟨hb1, hr1⟩ := zero_pair w
  rw [← hw1] at hb1 hr1
  have H := Lib.hid (And.intro (show w1 = w.alloc (.cells #[.int .i64 0, .slice none 0 0, .slice none 0 0] 31) from hw1) (And.intro hb1 hr1))
  have m0 := hr1.c0
  have m1 : w1.cell? ⟨w.heap.size, 1, none⟩ = some (.slice none 0 0) := hr1.c1
  have m2 : w1.cell? ⟨w.heap.size, 2, none⟩ = some (.slice none 0 0) := hr1.c2
  have z := hr1.z
  have HR := Lib.hid hr1
  have HP := Lib.hid hb1
  clear hw1 hb1 hr1
  go_enter Try.func37, Try.ntmps37
  go_wp2_with fail
  rw [← H.out.1]
  go_wp2
  exact ret_cb (g := w.heap.size) rfl rfl rfl rfl HR.out ⟨_, rfl, CW.zero _, HP.out⟩

set_option maxHeartbeats 1000000 in
theorem over_any (a : Option Addr) (n c : Nat) (ls : List ByteArray) (f t : Nat) (ya : Option Addr) (yn yc : Nat) (yl : List ByteArray) (w : World) (h : Ss w a n c ls) (hy : Ss w ya yn yc yl) (hft : f ≤ t) (htn : t < n) (hn : n ≤ 1000000) :
    Calls Try.prog 35 #[.slice a n c, .int .i64 f, .int .i64 t, .slice ya yn yc] w fun e w' => CbOut w ((f, cutL ls f t, yl), true) e w' := by
  obtain ⟨i0, hi0, hz0, hz1, hz2⟩ := info_parts infoS
  have hlen := h.length
  obtain ⟨b, o, rfl, _⟩ := Ss.read h 0 (by omega)
  obtain ⟨hc1, hc2⟩ := cap_src h (by omega)
  obtain ⟨w1, hw1⟩ : ∃ w1, w1 = w.alloc (.cells #[.int .i64 0, .slice none 0 0, .slice none 0 0] TC) := ⟨_, rfl⟩
  obtain ⟨hb1, hr1⟩ := zero_pair w
  rw [← hw1] at hb1 hr1
  have hsrc := Lib.hid (cut_src (SrcV.below h hb1) hft htn)
  have hown0 := Lib.hid (World.ownsRow_nil w1 w1.heap.size ES 1)
  have H := Lib.hid (And.intro (show w1 = w.alloc (.cells #[.int .i64 0, .slice none 0 0, .slice none 0 0] 31) from hw1) (And.intro hb1 (And.intro hr1 hy)))
  have e1 : IntKind.i64.wrap ((t : Int) + 1) = ((t + 1 : Nat) : Int) := by rw [IntKind.wrap_i64]; omega
  have e2 : ((t + 1 : Nat) : Int) ≤ (c : Int) := by omega
  have e3 : (f : Int) ≤ ((t + 1 : Nat) : Int) := by omega
  have e4 : ((t + 1 : Nat) : Int).toNat = t + 1 := by omega
  have e5 : c ≠ f := by omega
  have e6 : t + 1 - f ≤ 1000000 := by omega
  clear h hy hw1 hb1 hr1
  have FACT : ∀ (b2 : Option Addr) (c2 : Nat) (w2 : World), w2.ownsRow w1.heap.size ES 1 (.slice b2 (0 + (t + 1 - f)) c2) (0 + (t + 1 - f)) ([] ++ (cutL ls f t).map .string) → w1.grownBy w2 (Value.slice none 0 0).ownBlock →
      w2.cell? ⟨w.heap.size, 0, none⟩ = some (.int .i64 0) ∧ w2.cell? ⟨w.heap.size, 1, none⟩ = some (.slice none 0 0) ∧ w2.cell? ⟨w.heap.size, 2, none⟩ = some (.slice none 0 0) ∧ (∀ k, w2.frozen? ⟨w.heap.size, k, none⟩ = false) ∧
      Hid (ChAt (putC w2 w.heap.size (f, (b2, t + 1 - f, c2), (ya, yn, yc))) w.heap.size (f, (b2, t + 1 - f, c2), (ya, yn, yc))) ∧ Hid (CbOut w ((f, cutL ls f t, yl), true) (.returned (.tuple #[cv (f, (b2, t + 1 - f, c2), (ya, yn, yc)), .bool true])) (putC w2 w.heap.size (f, (b2, t + 1 - f, c2), (ya, yn, yc)))) := by
    intro b2 c2 w2 hown hg
    have hb2 : Below w1.heap.size w1 w2 := (Below.refl _ w1).grown hg (Nat.le_refl _) (fun k e => by simp [Value.ownBlock] at e)
    simp only [Nat.zero_add, List.nil_append] at hown
    have hr2 := H.out.2.2.1.below hb2 H.out.2.2.1.lt
    refine ⟨hr2.c0, hr2.c1, hr2.c2, hr2.z, hr2.set (f, (b2, t + 1 - f, c2), (ya, yn, yc)), ?_⟩
    have hf := putC_fr w2 w.heap.size (f, (b2, t + 1 - f, c2), (ya, yn, yc))
    refine ⟨_, rfl, ⟨rfl, ?_, ?_⟩, putC_below (below_on H.out.2.1 hb2) (Nat.le_refl _) _⟩
    · have hs : Ss w2 b2 (t + 1 - f) c2 (cutL ls f t) := SrcV.ofOwn hown (one_cells _)
      refine SrcV.fr hs hf fun hm k hk e => ?_
      have h1 := (hown.lt k (by cases b2 <;> exact hk)).1
      have := H.out.2.1.size
      have h3 := H.out.2.2.1.lt
      have e' : k = w.heap.size := e
      omega
    · have hs := SrcV.below (SrcV.below H.out.2.2.2 H.out.2.1) hb2
      refine SrcV.fr hs hf fun hm k hk e => ?_
      have hm' : 0 < yn := hm
      have h1 := SrcV.blkLt H.out.2.2.2 (show 0 < yn * 1 by omega) k hk
      have e' : k = w.heap.size := e
      omega
  go_enter Try.func35, Try.ntmps35
  go_wp2_with (at_builtin; rw [← H.out.1]; go_must (refine append_srcv _ rfl _ _ 22 rfl w1.heap.size ES i0 (.string ⟨#[]⟩) 1 16 underS hi0 hz0 hz1 hz2 rfl (by decide) _ 0 [] rfl hown0.out _ (t + 1 - f) ((cutL ls f t).map .string) rfl hsrc.out (by simp only [maxLen]; omega) (by omega) (Nat.le_refl _) ?_); intro b2 c2 w2 hown hg hnr; obtain ⟨m0, m1, m2, z, HR, HF⟩ := FACT b2 c2 w2 hown hg; clear hown hg hnr FACT; rw [Nat.zero_add])
  exact ret_cb (g := w.heap.size) rfl rfl rfl rfl HR.out HF.out

/-! ### two changes -/
theorem drewN_below (w : World) (m : Nat) : Below w.heap.size w (w.drewN m) := ((Fr.refl (fun _ => False) w).drewN m).below (Nat.le_refl _) (by simp)
/-- Two changes in two new variables. -/
theorem two_ch (w : World) (x y : Rw) : Below w.heap.size w ((w.alloc (.cells #[.int .i64 x.1, sv x.2.1, sv x.2.2] TC)).alloc (.cells #[.int .i64 y.1, sv y.2.1, sv y.2.2] TC)) ∧
    ChAt ((w.alloc (.cells #[.int .i64 x.1, sv x.2.1, sv x.2.2] TC)).alloc (.cells #[.int .i64 y.1, sv y.2.1, sv y.2.2] TC)) w.heap.size x ∧ ChAt ((w.alloc (.cells #[.int .i64 x.1, sv x.2.1, sv x.2.2] TC)).alloc (.cells #[.int .i64 y.1, sv y.2.1, sv y.2.2] TC)) (w.heap.size + 1) y := by
  refine ⟨two_below _ _ _, (ChAt.new w x).below (one_below _ _) (by simp), ?_⟩
  exact two_new w _ _
set_option maxHeartbeats 1000000 in
theorem change_any (f : Int) (oa : Option Addr) (on oc : Nat) (na : Option Addr) (nn nc : Nat) (g : Int) (pa : Option Addr) (pn pc : Nat) (qa : Option Addr) (qn qc : Nat) (x y : Ch) (w : World)
    (hx : CW w (f, (oa, on, oc), (na, nn, nc)) x) (hy : CW w (g, (pa, pn, pc), (qa, qn, qc)) y) :
    Calls Try.prog 30 #[.agg #[.int .i64 f, .slice oa on oc, .slice na nn nc], .agg #[.int .i64 g, .slice pa pn pc, .slice qa qn qc]] w fun e w' => e = .returned (.bool (decide (x = y))) ∧ Below w.heap.size w w' := by
  obtain ⟨x1, x2, x3⟩ := x
  obtain ⟨y1, y2, y3⟩ := y
  obtain ⟨rfl, hx2, hx3⟩ := hx
  obtain ⟨rfl, hy2, hy3⟩ := hy
  obtain ⟨X, hX⟩ : ∃ X, X = (w.alloc (.cells #[.int .i64 f, .slice oa on oc, .slice na nn nc] TC)).alloc (.cells #[.int .i64 g, .slice pa pn pc, .slice qa qn qc] TC) := ⟨_, rfl⟩
  obtain ⟨hb, hp, hq⟩ := two_ch w (f, (oa, on, oc), (na, nn, nc)) (g, (pa, pn, pc), (qa, qn, qc))
  rw [show ((w.alloc (.cells #[.int .i64 (f, ((oa, on, oc) : Sl), ((na, nn, nc) : Sl)).1, sv (f, ((oa, on, oc) : Sl), ((na, nn, nc) : Sl)).2.1, sv (f, ((oa, on, oc) : Sl), ((na, nn, nc) : Sl)).2.2] TC)).alloc (.cells #[.int .i64 (g, ((pa, pn, pc) : Sl), ((qa, qn, qc) : Sl)).1, sv (g, ((pa, pn, pc) : Sl), ((qa, qn, qc) : Sl)).2.1, sv (g, ((pa, pn, pc) : Sl), ((qa, qn, qc) : Sl)).2.2] TC)) = X from hX.symm] at hb hp hq
  have p0 := hp.c0
  have p1 : X.cell? ⟨w.heap.size, 1, none⟩ = some (.slice oa on oc) := hp.c1
  have p2 : X.cell? ⟨w.heap.size, 2, none⟩ = some (.slice na nn nc) := hp.c2
  have q0 := hq.c0
  have q1 : X.cell? ⟨w.heap.size + 1, 1, none⟩ = some (.slice pa pn pc) := hq.c1
  have q2 : X.cell? ⟨w.heap.size + 1, 2, none⟩ = some (.slice qa qn qc) := hq.c2
  have H := Lib.hid (And.intro (show X = (w.alloc (.cells #[.int .i64 f, .slice oa on oc, .slice na nn nc] 31)).alloc (.cells #[.int .i64 g, .slice pa pn pc, .slice qa qn qc] 31) from hX) (And.intro hb (And.intro hp hq)))
  have s1 := strings_any oa on oc x2 pa pn pc y2 X (SrcV.below hx2 hb) (SrcV.below hy2 hb)
  have s2 := fun W (hW : Below X.heap.size X W) => strings_any na nn nc x3 qa qn qc y3 W (SrcV.below (SrcV.below hx3 hb) hW) (SrcV.below (SrcV.below hy3 hb) hW)
  have HD : Hid (decide ((f, x2, x3) = ((g, y2, y3) : Ch)) = (decide (f = g) && decide (x2 = y2) && decide (x3 = y3))) := by
    show _ = _
    rw [Bool.eq_iff_iff]
    simp only [Bool.and_eq_true, decide_eq_true_eq, Prod.mk.injEq, and_assoc]
  rw [HD.out]
  generalize decide (x2 = y2) = d2 at *
  generalize decide (x3 = y3) = d3 at *
  clear hX hb hp hq hx2 hx3 hy2 hy3 HD
  by_cases h1 : f = g
  · have e1 : (f == g) = true := by rw [beq_iff_eq]; exact h1
    rw [decide_eq_true h1]
    clear h1
    go_enter Try.func30, Try.ntmps30
    go_wp2_with fail
    rw [← H.out.1]
    refine s1.mono ?_
    rintro e w1 ⟨rfl, m1, hm1⟩
    have hb1 : Below X.heap.size X w1 := by rw [hm1]; exact drewN_below _ _
    have HB1 := Lib.hid (below_on H.out.2.1 hb1)
    have P := H.out.2.2.1.below hb1 H.out.2.2.1.lt
    have Q := H.out.2.2.2.below hb1 H.out.2.2.2.lt
    have r2 : w1.cell? ⟨w.heap.size, 2, none⟩ = some (.slice na nn nc) := P.c2
    have u2 : w1.cell? ⟨w.heap.size + 1, 2, none⟩ = some (.slice qa qn qc) := Q.c2
    have s3 := s2 w1 hb1
    clear s1 s2 p0 p1 p2 q0 q1 q2 P Q hb1 hm1
    cases d2 with
    | false =>
      go_wp2
      go_ret
      exact ⟨rfl, HB1.out⟩
    | true =>
      go_wp2_with fail
      refine s3.mono ?_
      rintro e w2 ⟨rfl, m2, rfl⟩
      clear s3
      go_wp2
      go_ret
      exact ⟨rfl, below_on HB1.out (drewN_below _ _)⟩
  · have e1 : (f == g) = false := by rw [beq_eq_false_iff_ne]; exact h1
    rw [decide_eq_false h1]
    clear h1 s1 s2
    go_enter Try.func30, Try.ntmps30
    go_wp2
    rw [← H.out.1]
    go_ret
    exact ⟨rfl, H.out.2.1⟩

theorem bool_eq (p q : Bool) (w : World) : (binOp .eql 4 (.bool p) (.bool q)).run Try.prog w = .ok (.bool (decide (p = q))) w := by cases p <;> cases q <;> kernel_rfl
theorem same_any (f : Int) (oa : Option Addr) (on oc : Nat) (na : Option Addr) (nn nc : Nat) (g : Int) (pa : Option Addr) (pn pc : Nat) (qa : Option Addr) (qn qc : Nat) (x y : Ch) (p q : Bool) (w : World)
    (hx : CW w (f, (oa, on, oc), (na, nn, nc)) x) (hy : CW w (g, (pa, pn, pc), (qa, qn, qc)) y) :
    Calls Try.prog 15 #[.agg #[.int .i64 f, .slice oa on oc, .slice na nn nc], .bool p, .agg #[.int .i64 g, .slice pa pn pc, .slice qa qn qc], .bool q] w fun e w' => e = .returned (.bool (decide (p = q) && decide (x = y))) ∧ Below w.heap.size w w' := by
  obtain ⟨X, hX⟩ : ∃ X, X = (w.alloc (.cells #[.int .i64 f, .slice oa on oc, .slice na nn nc] TC)).alloc (.cells #[.int .i64 g, .slice pa pn pc, .slice qa qn qc] TC) := ⟨_, rfl⟩
  obtain ⟨hb, hp, hq⟩ := two_ch w (f, (oa, on, oc), (na, nn, nc)) (g, (pa, pn, pc), (qa, qn, qc))
  rw [show ((w.alloc (.cells #[.int .i64 (f, ((oa, on, oc) : Sl), ((na, nn, nc) : Sl)).1, sv (f, ((oa, on, oc) : Sl), ((na, nn, nc) : Sl)).2.1, sv (f, ((oa, on, oc) : Sl), ((na, nn, nc) : Sl)).2.2] TC)).alloc (.cells #[.int .i64 (g, ((pa, pn, pc) : Sl), ((qa, qn, qc) : Sl)).1, sv (g, ((pa, pn, pc) : Sl), ((qa, qn, qc) : Sl)).2.1, sv (g, ((pa, pn, pc) : Sl), ((qa, qn, qc) : Sl)).2.2] TC)) = X from hX.symm] at hb hp hq
  have p0 := hp.c0
  have p1 : X.cell? ⟨w.heap.size, 1, none⟩ = some (.slice oa on oc) := hp.c1
  have p2 : X.cell? ⟨w.heap.size, 2, none⟩ = some (.slice na nn nc) := hp.c2
  have q0 := hq.c0
  have q1 : X.cell? ⟨w.heap.size + 1, 1, none⟩ = some (.slice pa pn pc) := hq.c1
  have q2 : X.cell? ⟨w.heap.size + 1, 2, none⟩ = some (.slice qa qn qc) := hq.c2
  have H := Lib.hid (And.intro (show X = (w.alloc (.cells #[.int .i64 f, .slice oa on oc, .slice na nn nc] 31)).alloc (.cells #[.int .i64 g, .slice pa pn pc, .slice qa qn qc] 31) from hX) hb)
  have s1 := change_any f oa on oc na nn nc g pa pn pc qa qn qc x y X (hx.below hb) (hy.below hb)
  have be := fun W => bool_eq p q W
  generalize decide (x = y) = d at *
  generalize decide (p = q) = d0 at *
  clear hX hb hp hq hx hy
  cases d0 with
  | false =>
    clear s1
    go_enter Try.func15, Try.ntmps15
    go_wp2
    rw [← H.out.1]
    go_ret
    exact ⟨rfl, H.out.2⟩
  | true =>
    go_enter Try.func15, Try.ntmps15
    go_wp2_with fail
    rw [← H.out.1]
    refine s1.mono ?_
    rintro e w1 ⟨rfl, hb1⟩
    have HB := Lib.hid (below_on H.out.2 hb1)
    clear s1 hb1
    go_wp2
    go_ret
    exact ⟨rfl, HB.out⟩
end Go.Proofs.Ytkddnknjjdenhaa.Ed
