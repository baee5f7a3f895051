/-
  The law RegsJoin, walked.
-/
import Derived.Test.YtgfajagajiofnaaRo
import Derived.Test.YtgfajagajiofnaaRs
import Derived.Test.YtgfajagajiofnaaRt
import Derived.Deep.CutRange
import Derived.Deep.CutBlock
set_option linter.unusedVariables false
set_option linter.unusedSimpArgs false
set_option maxRecDepth 100000
namespace Go.Proofs.Ytgfajagajiofnaa.RJo
open Go Go.RowKit Go.Proofs.Ytgfajagajiofnaa.Vk Go.Proofs.Ytgfajagajiofnaa.Str Go.Proofs.Ytgfajagajiofnaa.Ln Go.Proofs.Ytgfajagajiofnaa.Cl Go.Proofs.Ytgfajagajiofnaa.Rl Go.Proofs.Ytgfajagajiofnaa.Rg
attribute [local go_sem] Oper.semAt_some

theorem tz_len (ls : List ByteArray) (M : Nat) (h : ∀ s ∈ ls, s.size ≤ M) : tz ls ≤ ls.length * (M + 1) := by
  induction ls with
  | nil => simp [tz]
  | cons x l ih =>
    rw [tz_cons, List.length_cons, Nat.succ_mul]
    have h1 := h x List.mem_cons_self
    have h2 := ih fun s hs => h s (List.mem_cons_of_mem _ hs)
    omega
/-- A kind, by a name of its own. -/
structure Kd (J D : Int) : Prop where
  eq : J = kp D
theorem place3_j {J D : Int} (h : Kd J D) (w : World) : Calls Try.prog 13 #[.int .i64 D, .int .i64 3] w fun e w' => e = .returned (.int .i64 J) ∧ w = w' := by
  rw [h.eq]
  exact place3_any D w

set_option maxHeartbeats 4000000 in
theorem walk (k1 : Int) (a1 : Option Addr) (n1 c1 : Nat) (z1 : List ByteArray) (k2 : Int) (a2 : Option Addr) (n2 c2 : Nat) (z2 : List ByteArray) (w : World) (h1 : SrcV w 1 (.slice a1 n1 c1) n1 (z1.map .string)) (b1 : ∀ s ∈ z1, s.size ≤ 140737488355328)
    (h2 : SrcV w 1 (.slice a2 n2 c2) n2 (z2.map .string)) (b2 : ∀ s ∈ z2, s.size ≤ 140737488355328) :
    Calls Try.prog 4 #[.agg #[.int .i64 k1, .slice a1 n1 c1], .agg #[.int .i64 k2, .slice a2 n2 c2]] w fun e w' => e = .returned (.bool true) ∧ Below w.heap.size w w' := by
  have l1 := Ss.length h1
  have l2 := Ss.length h2
  obtain ⟨wB, hwB⟩ : ∃ wB, wB = (w.alloc (.cells #[.int .i64 k1, .slice a1 n1 c1] 33)).alloc (.cells #[.int .i64 k2, .slice a2 n2 c2] 33) := ⟨_, rfl⟩
  have hbB : Below w.heap.size w wB := by rw [hwB]; exact below_on (one_below _ _) (one_below _ _)
  have hr1 : RegAt wB w.heap.size (k1, a1, n1, c1) := by
    rw [hwB]
    exact (RegAt.new w (k1, a1, n1, c1)).below (one_below _ _) (by simp)
  have hr2 : RegAt wB (w.heap.size + 1) (k2, a2, n2, c2) := by
    rw [hwB]
    have h := RegAt.new (w.alloc (.cells #[.int .i64 k1, .slice a1 n1 c1] TR)) (k2, a2, n2, c2)
    rw [show (w.alloc (.cells #[.int .i64 k1, .slice a1 n1 c1] TR)).heap.size = w.heap.size + 1 by simp] at h
    exact h
  have hk := known_any wB
  have HI := Lib.hid (And.intro h1 (And.intro b1 (And.intro h2 (And.intro b2 (And.intro l1 l2)))))
  have HBx := Lib.hid (And.intro hwB (And.intro hbB (And.intro hr1 hr2)))
  have hn1 := Ss.le63 h1
  have hn2 := Ss.le63 h2
  clear h1 b1 h2 b2 l1 l2 hwB hbB hr1 hr2
  go_enter Try.func4, Try.ntmps4
  go_wp2_with fail
  rw [← HBx.out.1]
  refine hk.mono ?_
  rintro e w1 ⟨rfl, hb1⟩
  have r1 := HBx.out.2.2.1.below hb1 HBx.out.2.2.1.lt
  have r2 := HBx.out.2.2.2.below hb1 HBx.out.2.2.2.lt
  have HB := Lib.hid (And.intro (below_on HBx.out.2.1 hb1) (And.intro r1 r2))
  have p0 := r1.c0
  have p1 : w1.cell? ⟨w.heap.size, 1, none⟩ = some (.slice a1 n1 c1) := r1.c1
  have q0 := r2.c0
  have q1 : w1.cell? ⟨w.heap.size + 1, 1, none⟩ = some (.slice a2 n2 c2) := r2.c1
  clear hk hb1 r1 r2
  by_cases h20 : 20 < n1
  · have e1 : (20 : Int) < (n1 : Int) := by omega
    go_wp2
    go_ret
    exact ⟨rfl, HB.out.1⟩
  by_cases h21 : 20 < n2
  · have e1 : ¬ (20 : Int) < (n1 : Int) := by omega
    have e2 : (20 : Int) < (n2 : Int) := by omega
    go_wp2
    go_ret
    exact ⟨rfl, HB.out.1⟩
  have e1 : ¬ (20 : Int) < (n1 : Int) := by omega
  have e2 : ¬ (20 : Int) < (n2 : Int) := by omega
  have HN := Lib.hid (show n1 ≤ 20 ∧ n2 ≤ 20 by omega)
  clear h20 h21
  go_upto_region 5 with fail
  clear e1 e2
  have hl1 : w.heap.size < w1.heap.size := HB.out.2.1.lt
  have hl2 : w.heap.size + 1 < w1.heap.size := HB.out.2.2.lt
  go_cut [5, 6] from 20 to 22 (fun s5 s6 wx => ∃ g5 g6 : Nat, s5 = .pointer (some ⟨g5, 0, none⟩) ∧ s6 = .pointer (some ⟨g6, 0, none⟩) ∧ Hid (RegAt wx g5 (k1, a1, n1, c1) ∧ RegAt wx g6 (k2, a2, n2, c2) ∧ w1.heap.size ≤ g5 ∧ w1.heap.size ≤ g6 ∧ ¬ g5 = g6 ∧ Below w1.heap.size w1 wx))
  case first =>
    have F_0 := fun (C : World → Prop) (hC : Vs.Grows (fun j => w1.heap.size ≤ j) w1 C) (z : Vs.In C) => hC.cell p0 (by simp only; omega) z
    have F_1 := fun (C : World → Prop) (hC : Vs.Grows (fun j => w1.heap.size ≤ j) w1 C) (z : Vs.In C) => hC.cell p1 (by simp only; omega) z
    have F_2 := fun (C : World → Prop) (hC : Vs.Grows (fun j => w1.heap.size ≤ j) w1 C) (z : Vs.In C) => hC.cell q0 (by simp only; omega) z
    have F_3 := fun (C : World → Prop) (hC : Vs.Grows (fun j => w1.heap.size ≤ j) w1 C) (z : Vs.In C) => hC.cell q1 (by simp only; omega) z
    clear p0 p1 q0 q1
    refine Vs.wp_region_tree (S := fun j => w1.heap.size ≤ j) [] (.fork ([0, 1].map (fun i => (i, 0)) ++ []) 2 3 (.path [(3, 1), (4, 1), (5, 1)]) (.path [(2, 1), (4, 1), (5, 1)])) (by kernel_rfl) (by kernel_rfl) ?_
    refine Vs.wpTr_fork (Vs.wpPath_on [0, 1] 46 rfl (by kernel_rfl) ?_)
    simp only [List.map_cons, List.map_nil, Vs.opOf_succ, Vs.opOf_zero]
    apply Exists.intro
    refine ⟨fun C hC => ?_, ?_⟩
    · haveI hI := hC.one
      have f_0 := F_0 C hC
      have f_1 := F_1 C hC
      have f_2 := F_2 C hC
      have f_3 := F_3 C hC
      repeat (go_big_quiet_step (fail))
      exact wpQuiet_nil rfl
    clear F_0 F_1 F_2 F_3
    intro u0 hu0
    refine ⟨?_, ?_⟩
    · intro u hu
      have HB0 := below_on hu0 hu
      refine Vs.fork_make (W' := u.alloc (.cells #[.int .i64 0, .slice none 0 0] TR)) (u := .pointer (some ⟨u.heap.size, 0, none⟩)) rfl rfl (by simp only [Vs.opOf_succ, Vs.opOf_zero]; kernel_rfl) ?_
      refine ⟨Fr.ofBelow (one_below _ _) _, ?_⟩
      simp only [Vs.opOf_succ, Vs.opOf_zero, Act.put, List.setIfInBounds_toArray, List.set_cons_zero, List.set_cons_succ]
      have hng5 : RegAt (u.alloc (.cells #[.int .i64 0, .slice none 0 0] TR)) u.heap.size (0, none, 0, 0) := RegAt.new u (0, none, 0, 0)
      obtain ⟨v, hv⟩ : ∃ v, v = u.alloc (.cells #[.int .i64 0, .slice none 0 0] TR) := ⟨_, rfl⟩
      have hbv : Below u.heap.size u v := by rw [hv]; exact one_below _ _
      obtain ⟨g5, hg5⟩ : ∃ g5, g5 = u.heap.size := ⟨_, rfl⟩
      rw [← hv, ← hg5] at hng5
      rw [← hv, ← hg5]
      clear hv
      have hba := below_on HB0 hbv
      have hga : w1.heap.size ≤ g5 := by rw [hg5]; exact HB0.size
      clear hbv hg5 HB0 hu
      refine Vs.wpTr_path ?_
      refine Vs.wpPath_make rfl fun u hu => ?_
      refine ⟨.pointer (some ⟨u.heap.size, 0, none⟩), u.alloc (.cells #[.int .i64 0, .slice none 0 0] TR), rfl, by simp only [Vs.opOf_succ, Vs.opOf_zero]; kernel_rfl, Fr.ofBelow (one_below _ _) _, ?_⟩
      simp only [Vs.opOf_succ, Vs.opOf_zero, Act.put, List.setIfInBounds_toArray, List.set_cons_zero, List.set_cons_succ]
      have hng5 := hng5.below hu hng5.lt
      have hng6 : RegAt (u.alloc (.cells #[.int .i64 0, .slice none 0 0] TR)) u.heap.size (0, none, 0, 0) := RegAt.new u (0, none, 0, 0)
      obtain ⟨v2, hv⟩ : ∃ v2, v2 = u.alloc (.cells #[.int .i64 0, .slice none 0 0] TR) := ⟨_, rfl⟩
      have hbv : Below u.heap.size u v2 := by rw [hv]; exact one_below _ _
      obtain ⟨g6, hg6⟩ : ∃ g6, g6 = u.heap.size := ⟨_, rfl⟩
      rw [← hv, ← hg6] at hng6
      rw [← hv, ← hg6]
      clear hv
      have hab : ¬ g5 = g6 := by have := hng5.lt; omega
      have hgb : w1.heap.size ≤ g6 := by have := hba.size; have := hu.size; omega
      have hng5 := hng5.below hbv hng5.lt
      have hbb := below_on hba (below_on hu hbv)
      clear hbv hg6 hu hba
      refine Vs.wpPath_put rfl fun u hu => ?_
      have hng5 := hng5.below hu hng5.lt
      have hng6 := hng6.below hu hng6.lt
      have hbb := below_on hbb hu
      have m0 := hng5.c0
      have m1 : u.cell? ⟨g5, 1, none⟩ = some (.slice none 0 0) := hng5.c1
      have z := hng5.z
      have hg5 : w1.heap.size ≤ g5 := by omega
      have hg6 : w1.heap.size ≤ g6 := by omega
      have hF := (((Fr.refl (fun j => j = g5) u).setCell (p := ⟨g5, 0, none⟩) (fun _ => rfl) (.int .i64 k1)).setCell (p := ⟨g5, 1, none⟩) (fun _ => rfl) (.slice a1 n1 c1))
      have hs5 : RegAt ((u.setCell ⟨g5, 0, none⟩ (.int .i64 k1)).setCell ⟨g5, 1, none⟩ (.slice a1 n1 c1)) g5 (k1, a1, n1, c1) := hng5.set (k1, a1, n1, c1)
      have hn6 := hng6.fr hF (by omega)
      have hbb := (hbb.setCell (p := ⟨g5, 0, none⟩) hg5 (.int .i64 k1)).setCell (p := ⟨g5, 1, none⟩) hg5 (.slice a1 n1 c1)
      refine ⟨(u.setCell ⟨g5, 0, none⟩ (.int .i64 k1)).setCell ⟨g5, 1, none⟩ (.slice a1 n1 c1), rfl, by simp only [Vs.opOf_succ, Vs.opOf_zero]; go_simp, hF.mono (fun j _ e => by rw [e]; exact hg5), ?_⟩
      simp only [Vs.opOf_succ, Vs.opOf_zero, Act.put, List.setIfInBounds_toArray, List.set_cons_zero, List.set_cons_succ]
      obtain ⟨y, hy⟩ : ∃ y, y = (u.setCell ⟨g5, 0, none⟩ (.int .i64 k1)).setCell ⟨g5, 1, none⟩ (.slice a1 n1 c1) := ⟨_, rfl⟩
      rw [← hy] at hs5 hn6 hbb
      rw [← hy]
      clear hy hF m0 m1 z
      refine Vs.wpPath_put rfl fun u2 hu2 => ?_
      have hs5 := hs5.below hu2 hs5.lt
      have hn6 := hn6.below hu2 hn6.lt
      have hbb := below_on hbb hu2
      have m0 := hn6.c0
      have m1 : u2.cell? ⟨g6, 1, none⟩ = some (.slice none 0 0) := hn6.c1
      have z := hn6.z
      have hF := (((Fr.refl (fun j => j = g6) u2).setCell (p := ⟨g6, 0, none⟩) (fun _ => rfl) (.int .i64 k2)).setCell (p := ⟨g6, 1, none⟩) (fun _ => rfl) (.slice a2 n2 c2))
      have hs6 : RegAt ((u2.setCell ⟨g6, 0, none⟩ (.int .i64 k2)).setCell ⟨g6, 1, none⟩ (.slice a2 n2 c2)) g6 (k2, a2, n2, c2) := hn6.set (k2, a2, n2, c2)
      have hs5 := hs5.fr hF (by omega)
      have hbb := (hbb.setCell (p := ⟨g6, 0, none⟩) hg6 (.int .i64 k2)).setCell (p := ⟨g6, 1, none⟩) hg6 (.slice a2 n2 c2)
      refine ⟨(u2.setCell ⟨g6, 0, none⟩ (.int .i64 k2)).setCell ⟨g6, 1, none⟩ (.slice a2 n2 c2), rfl, by simp only [Vs.opOf_succ, Vs.opOf_zero]; go_simp, hF.mono (fun j _ e => by rw [e]; exact hg6), ?_⟩
      simp only [Vs.opOf_succ, Vs.opOf_zero, Act.put, List.setIfInBounds_toArray, List.set_cons_zero, List.set_cons_succ]
      refine Vs.wpPath_end fun u3 hu3 => ?_
      have HE : Hid (RegAt u3 g5 (k1, a1, n1, c1) ∧ RegAt u3 g6 (k2, a2, n2, c2) ∧ w1.heap.size ≤ g5 ∧ w1.heap.size ≤ g6 ∧ ¬ g5 = g6 ∧ Below w1.heap.size w1 u3) := ⟨hs5.below hu3 hs5.lt, hs6.below hu3 hs6.lt, hg5, hg6, by omega, below_on hbb hu3⟩
      clear hs5 hs6 hn6 hbb hF hu3 hu2 hu m0 m1 z hng5 hng6
      go_wp2
      go_meet
      case rel => exact ⟨g5, g6, rfl, rfl, HE⟩
    · intro u hu
      have HB0 := below_on hu0 hu
      refine Vs.fork_make (W' := u.alloc (.cells #[.int .i64 0, .slice none 0 0] TR)) (u := .pointer (some ⟨u.heap.size, 0, none⟩)) rfl rfl (by simp only [Vs.opOf_succ, Vs.opOf_zero]; kernel_rfl) ?_
      refine ⟨Fr.ofBelow (one_below _ _) _, ?_⟩
      simp only [Vs.opOf_succ, Vs.opOf_zero, Act.put, List.setIfInBounds_toArray, List.set_cons_zero, List.set_cons_succ]
      have hng6 : RegAt (u.alloc (.cells #[.int .i64 0, .slice none 0 0] TR)) u.heap.size (0, none, 0, 0) := RegAt.new u (0, none, 0, 0)
      obtain ⟨v, hv⟩ : ∃ v, v = u.alloc (.cells #[.int .i64 0, .slice none 0 0] TR) := ⟨_, rfl⟩
      have hbv : Below u.heap.size u v := by rw [hv]; exact one_below _ _
      obtain ⟨g6, hg6⟩ : ∃ g6, g6 = u.heap.size := ⟨_, rfl⟩
      rw [← hv, ← hg6] at hng6
      rw [← hv, ← hg6]
      clear hv
      have hba := below_on HB0 hbv
      have hga : w1.heap.size ≤ g6 := by rw [hg6]; exact HB0.size
      clear hbv hg6 HB0 hu
      refine Vs.wpTr_path ?_
      refine Vs.wpPath_make rfl fun u hu => ?_
      refine ⟨.pointer (some ⟨u.heap.size, 0, none⟩), u.alloc (.cells #[.int .i64 0, .slice none 0 0] TR), rfl, by simp only [Vs.opOf_succ, Vs.opOf_zero]; kernel_rfl, Fr.ofBelow (one_below _ _) _, ?_⟩
      simp only [Vs.opOf_succ, Vs.opOf_zero, Act.put, List.setIfInBounds_toArray, List.set_cons_zero, List.set_cons_succ]
      have hng6 := hng6.below hu hng6.lt
      have hng5 : RegAt (u.alloc (.cells #[.int .i64 0, .slice none 0 0] TR)) u.heap.size (0, none, 0, 0) := RegAt.new u (0, none, 0, 0)
      obtain ⟨v2, hv⟩ : ∃ v2, v2 = u.alloc (.cells #[.int .i64 0, .slice none 0 0] TR) := ⟨_, rfl⟩
      have hbv : Below u.heap.size u v2 := by rw [hv]; exact one_below _ _
      obtain ⟨g5, hg5⟩ : ∃ g5, g5 = u.heap.size := ⟨_, rfl⟩
      rw [← hv, ← hg5] at hng5
      rw [← hv, ← hg5]
      clear hv
      have hab : ¬ g6 = g5 := by have := hng6.lt; omega
      have hgb : w1.heap.size ≤ g5 := by have := hba.size; have := hu.size; omega
      have hng6 := hng6.below hbv hng6.lt
      have hbb := below_on hba (below_on hu hbv)
      clear hbv hg5 hu hba
      refine Vs.wpPath_put rfl fun u hu => ?_
      have hng6 := hng6.below hu hng6.lt
      have hng5 := hng5.below hu hng5.lt
      have hbb := below_on hbb hu
      have m0 := hng5.c0
      have m1 : u.cell? ⟨g5, 1, none⟩ = some (.slice none 0 0) := hng5.c1
      have z := hng5.z
      have hg5 : w1.heap.size ≤ g5 := by omega
      have hg6 : w1.heap.size ≤ g6 := by omega
      have hF := (((Fr.refl (fun j => j = g5) u).setCell (p := ⟨g5, 0, none⟩) (fun _ => rfl) (.int .i64 k1)).setCell (p := ⟨g5, 1, none⟩) (fun _ => rfl) (.slice a1 n1 c1))
      have hs5 : RegAt ((u.setCell ⟨g5, 0, none⟩ (.int .i64 k1)).setCell ⟨g5, 1, none⟩ (.slice a1 n1 c1)) g5 (k1, a1, n1, c1) := hng5.set (k1, a1, n1, c1)
      have hn6 := hng6.fr hF (by omega)
      have hbb := (hbb.setCell (p := ⟨g5, 0, none⟩) hg5 (.int .i64 k1)).setCell (p := ⟨g5, 1, none⟩) hg5 (.slice a1 n1 c1)
      refine ⟨(u.setCell ⟨g5, 0, none⟩ (.int .i64 k1)).setCell ⟨g5, 1, none⟩ (.slice a1 n1 c1), rfl, by simp only [Vs.opOf_succ, Vs.opOf_zero]; go_simp, hF.mono (fun j _ e => by rw [e]; exact hg5), ?_⟩
      simp only [Vs.opOf_succ, Vs.opOf_zero, Act.put, List.setIfInBounds_toArray, List.set_cons_zero, List.set_cons_succ]
      obtain ⟨y, hy⟩ : ∃ y, y = (u.setCell ⟨g5, 0, none⟩ (.int .i64 k1)).setCell ⟨g5, 1, none⟩ (.slice a1 n1 c1) := ⟨_, rfl⟩
      rw [← hy] at hs5 hn6 hbb
      rw [← hy]
      clear hy hF m0 m1 z
      refine Vs.wpPath_put rfl fun u2 hu2 => ?_
      have hs5 := hs5.below hu2 hs5.lt
      have hn6 := hn6.below hu2 hn6.lt
      have hbb := below_on hbb hu2
      have m0 := hn6.c0
      have m1 : u2.cell? ⟨g6, 1, none⟩ = some (.slice none 0 0) := hn6.c1
      have z := hn6.z
      have hF := (((Fr.refl (fun j => j = g6) u2).setCell (p := ⟨g6, 0, none⟩) (fun _ => rfl) (.int .i64 k2)).setCell (p := ⟨g6, 1, none⟩) (fun _ => rfl) (.slice a2 n2 c2))
      have hs6 : RegAt ((u2.setCell ⟨g6, 0, none⟩ (.int .i64 k2)).setCell ⟨g6, 1, none⟩ (.slice a2 n2 c2)) g6 (k2, a2, n2, c2) := hn6.set (k2, a2, n2, c2)
      have hs5 := hs5.fr hF (by omega)
      have hbb := (hbb.setCell (p := ⟨g6, 0, none⟩) hg6 (.int .i64 k2)).setCell (p := ⟨g6, 1, none⟩) hg6 (.slice a2 n2 c2)
      refine ⟨(u2.setCell ⟨g6, 0, none⟩ (.int .i64 k2)).setCell ⟨g6, 1, none⟩ (.slice a2 n2 c2), rfl, by simp only [Vs.opOf_succ, Vs.opOf_zero]; go_simp, hF.mono (fun j _ e => by rw [e]; exact hg6), ?_⟩
      simp only [Vs.opOf_succ, Vs.opOf_zero, Act.put, List.setIfInBounds_toArray, List.set_cons_zero, List.set_cons_succ]
      refine Vs.wpPath_end fun u3 hu3 => ?_
      have HE : Hid (RegAt u3 g5 (k1, a1, n1, c1) ∧ RegAt u3 g6 (k2, a2, n2, c2) ∧ w1.heap.size ≤ g5 ∧ w1.heap.size ≤ g6 ∧ ¬ g5 = g6 ∧ Below w1.heap.size w1 u3) := ⟨hs5.below hu3 hs5.lt, hs6.below hu3 hs6.lt, hg5, hg6, by omega, below_on hbb hu3⟩
      clear hs5 hs6 hn6 hbb hF hu3 hu2 hu m0 m1 z hng5 hng6
      go_wp2
      go_meet
      case rel => exact ⟨g5, g6, rfl, rfl, HE⟩
  case rest =>
    obtain ⟨g5, g6, rfl, rfl, HC⟩ := hcut
    have p0 := cell_later HC.out.2.2.2.2.2 p0
    have p1 := cell_later HC.out.2.2.2.2.2 p1
    have q0 := cell_later HC.out.2.2.2.2.2 q0
    have q1 := cell_later HC.out.2.2.2.2.2 q1
    have h5 := HC.out.2.2.1
    have h6 := HC.out.2.2.2.1
    have h56 := HC.out.2.2.2.2.1
    obtain ⟨J1, hJ1⟩ : ∃ J1, J1 = kp k1 := ⟨_, rfl⟩
    obtain ⟨J2, hJ2⟩ : ∃ J2, J2 = kp k2 := ⟨_, rfl⟩
    have hp1 : Kd J1 k1 := ⟨hJ1⟩
    have hp2 : Kd J2 k2 := ⟨hJ2⟩
    clear hJ1 hJ2
    go_wp2_with fail
    have F_0 := fun (C : World → Prop) (hC : Vs.Grows (fun j => j = g5 ∨ j = g6) wc C) (z : Vs.In C) => hC.cell p0 (by simp only; omega) z
    have F_1 := fun (C : World → Prop) (hC : Vs.Grows (fun j => j = g5 ∨ j = g6) wc C) (z : Vs.In C) => hC.cell p1 (by simp only; omega) z
    have F_2 := fun (C : World → Prop) (hC : Vs.Grows (fun j => j = g5 ∨ j = g6) wc C) (z : Vs.In C) => hC.cell q0 (by simp only; omega) z
    have F_3 := fun (C : World → Prop) (hC : Vs.Grows (fun j => j = g5 ∨ j = g6) wc C) (z : Vs.In C) => hC.cell q1 (by simp only; omega) z
    refine Vs.wp_region_seg (S := fun j => j = g5 ∨ j = g6) [0, 1, 2, 3, 4, 5, 6] [(7, 1), (8, 2), (9, 1)] (by kernel_rfl) (by kernel_rfl) 46 rfl (by kernel_rfl) ?_
    simp only [List.map_cons, List.map_nil, Vs.opOf_succ, Vs.opOf_zero]
    apply Exists.intro
    refine ⟨fun C hC => ?_, ?_⟩
    · haveI hI := hC.one
      have f_0 := F_0 C hC
      have f_1 := F_1 C hC
      have f_2 := F_2 C hC
      have f_3 := F_3 C hC
      repeat (go_big_quiet_step (first | (go_at_call 13; exact Vs.Calls.in_of_same hC (place3_j (by first | exact hp1 | exact hp2) _))))
      exact wpQuiet_nil rfl
    clear F_0 F_1 F_2 F_3
    clear p0 p1 q0 q1 hp1 hp2
    refine Vs.wpPath_put rfl fun u hu => ?_
    have hs5 := HC.out.1.below hu HC.out.1.lt
    have hs6 := HC.out.2.1.below hu HC.out.2.1.lt
    have hbb := below_on HC.out.2.2.2.2.2 hu
    have m0 := hs5.c0
    have z := hs5.z
    have hF := (Fr.refl (fun j => j = g5) u).setCell (p := ⟨g5, 0, none⟩) (fun _ => rfl) (.int .i64 J1)
    have hs5 : RegAt (u.setCell ⟨g5, 0, none⟩ (.int .i64 J1)) g5 (J1, a1, n1, c1) := (heap_setCell_same u g5 0 _ _ (.int .i64 J1) hs5).trans (by simp)
    have hs6 := hs6.fr hF (by omega)
    have hbb := hbb.setCell (p := ⟨g5, 0, none⟩) h5 (.int .i64 J1)
    refine ⟨u.setCell ⟨g5, 0, none⟩ (.int .i64 J1), rfl, by simp only [Vs.opOf_succ, Vs.opOf_zero]; go_simp, hF.mono (fun j _ e => .inl e), ?_⟩
    simp only [Vs.opOf_succ, Vs.opOf_zero, Act.put, List.setIfInBounds_toArray, List.set_cons_zero, List.set_cons_succ]
    obtain ⟨y, hy⟩ : ∃ y, y = u.setCell ⟨g5, 0, none⟩ (.int .i64 J1) := ⟨_, rfl⟩
    rw [← hy] at hs5 hs6 hbb
    rw [← hy]
    clear hy hF m0 z
    refine Vs.wpPath_free (v := .pointer (some ⟨g6, 0, none⟩)) rfl rfl (fun W => by simp only [Vs.opOf_succ, Vs.opOf_zero]; go_simp) ?_
    simp only [Vs.opOf_succ, Vs.opOf_zero, Act.put, List.setIfInBounds_toArray, List.set_cons_zero, List.set_cons_succ]
    refine Vs.wpPath_put rfl fun u2 hu2 => ?_
    have hs5 := hs5.below hu2 hs5.lt
    have hs6 := hs6.below hu2 hs6.lt
    have hbb := below_on hbb hu2
    have m0 := hs6.c0
    have z := hs6.z
    have hF := (Fr.refl (fun j => j = g6) u2).setCell (p := ⟨g6, 0, none⟩) (fun _ => rfl) (.int .i64 J2)
    have hs6 : RegAt (u2.setCell ⟨g6, 0, none⟩ (.int .i64 J2)) g6 (J2, a2, n2, c2) := (heap_setCell_same u2 g6 0 _ _ (.int .i64 J2) hs6).trans (by simp)
    have hs5 := hs5.fr hF (by omega)
    have hbb := hbb.setCell (p := ⟨g6, 0, none⟩) h6 (.int .i64 J2)
    refine ⟨u2.setCell ⟨g6, 0, none⟩ (.int .i64 J2), rfl, by simp only [Vs.opOf_succ, Vs.opOf_zero]; go_simp, hF.mono (fun j _ e => .inr e), ?_⟩
    simp only [Vs.opOf_succ, Vs.opOf_zero, Act.put, List.setIfInBounds_toArray, List.set_cons_zero, List.set_cons_succ]
    refine Vs.wpPath_end fun v hv => ?_
    have hs5 := hs5.below hv (by have := hs5.lt; simpa [World.setCell] using this)
    have hs6 := hs6.below hv (by have := hs6.lt; simpa [World.setCell] using this)
    have hbb := hbb.trans (hv.mono hbb.size)
    have hbw := HB.out.1.trans (hbb.mono HB.out.1.size)
    have HV := Lib.hid (And.intro hs5 (And.intro hs6 hbw))
    have t1 := tz_len z1 _ HI.out.2.1
    have t2 := tz_len z2 _ HI.out.2.2.2.1
    have hlz : z1.length ≤ 20 ∧ z2.length ≤ 20 := by have := HI.out.2.2.2.2; have := HN.out; omega
    have htj : tz (jn (J1, z1) (J2, z2)).2 ≤ 4000000000000000000 := by
      have h := tz_jn (J1, z1) (J2, z2)
      simp only at h
      have h3 : z1.length * 140737488355329 ≤ 20 * 140737488355329 := Nat.mul_le_mul_right _ hlz.1
      have h4 : z2.length * 140737488355329 ≤ 20 * 140737488355329 := Nat.mul_le_mul_right _ hlz.2
      omega
    have el1 : ∀ W, Below v.heap.size v W → El W w.heap.size (J1, a1, n1, c1) (J1, z1) := fun W hW => (El.old HI.out.1 (Nat.le_refl _)).below (hbw.trans (hW.mono hbw.size))
    have el2 : ∀ W, Below v.heap.size v W → El W w.heap.size (J2, a2, n2, c2) (J2, z2) := fun W hW => (El.old HI.out.2.2.1 (Nat.le_refl _)).below (hbw.trans (hW.mono hbw.size))
    have hj := join_any J1 a1 n1 c1 (J1, z1) J2 a2 n2 c2 (J2, z2) v w.heap.size (el1 v (Below.refl _ _)) (el2 v (Below.refl _ _)) (by simp only; omega) HI.out.2.1 HI.out.2.2.2.1 hbw.size
    have hj2 := fun W (hW : Below v.heap.size v W) => join19_any J1 a1 n1 c1 (J1, z1) J2 a2 n2 c2 (J2, z2) W w.heap.size (el1 W hW) (el2 W hW) (by simp only; omega) HI.out.2.1 HI.out.2.2.2.1 (Nat.le_trans hbw.size hW.size)
    obtain ⟨GJ, hGJ⟩ : ∃ GJ, GJ = jn (J1, z1) (J2, z2) := ⟨_, rfl⟩
    rw [← hGJ] at hj hj2 htj
    have p0 := hs5.c0
    have p1 : v.cell? ⟨g5, 1, none⟩ = some (.slice a1 n1 c1) := hs5.c1
    have q0 := hs6.c0
    have q1 : v.cell? ⟨g6, 1, none⟩ = some (.slice a2 n2 c2) := hs6.c1
    clear hs5 hs6 hbb hbw hF hv hu hu2 m0 z t1 t2 hlz el1 el2 hGJ h5 h6 h56
    go_wp2_with fail
    refine hj.mono ?_
    rintro e v1 ⟨⟨k7, a7, n7, c7⟩, rfl, he7, hb7⟩
    simp only [rv, sv]
    clear hj p0 p1 q0 q1
    go_upto_region 8 with fail
    obtain ⟨v2, hv2⟩ : ∃ v2, v2 = v1.alloc (.cells #[.int .i64 k7, .slice a7 n7 c7] 33) := ⟨_, rfl⟩
    have hb2 : Below v1.heap.size v1 v2 := by rw [hv2]; exact one_below _ _
    have hr7 : RegAt v2 v1.heap.size (k7, a7, n7, c7) := by rw [hv2]; exact RegAt.new v1 (k7, a7, n7, c7)
    obtain ⟨g7, hg7⟩ : ∃ g7, g7 = v1.heap.size := ⟨_, rfl⟩
    rw [← hg7] at hr7
    rw [← hv2, ← hg7]
    have hbv := below_on hb7 hb2
    have H7 := Lib.hid (And.intro hr7 (And.intro (he7.below hb2) hbv))
    have p0 := hr7.c0
    have p1 : v2.cell? ⟨g7, 1, none⟩ = some (.slice a7 n7 c7) := hr7.c1
    have q0 := (HV.out.1.below hbv HV.out.1.lt).c0
    have q1 : v2.cell? ⟨g5, 1, none⟩ = some (.slice a1 n1 c1) := (HV.out.1.below hbv HV.out.1.lt).c1
    have s0 := (HV.out.2.1.below hbv HV.out.2.1.lt).c0
    have s1 : v2.cell? ⟨g6, 1, none⟩ = some (.slice a2 n2 c2) := (HV.out.2.1.below hbv HV.out.2.1.lt).c1
    clear hv2 hb2 hr7 hg7 he7 hb7 hbv
    go_wp2_with fail
    have F_0 := fun (C : World → Prop) (hC : Grows v2 C) (z : In C) => hC.cell p0 z
    have F_1 := fun (C : World → Prop) (hC : Grows v2 C) (z : In C) => hC.cell p1 z
    have F_2 := fun (C : World → Prop) (hC : Grows v2 C) (z : In C) => hC.cell q0 z
    have F_3 := fun (C : World → Prop) (hC : Grows v2 C) (z : In C) => hC.cell q1 z
    have F_4 := fun (C : World → Prop) (hC : Grows v2 C) (z : In C) => hC.cell s0 z
    have F_5 := fun (C : World → Prop) (hC : Grows v2 C) (z : In C) => hC.cell s1 z
    refine wp_region_seg [0, 1, 2] ((3, 1) :: ([4, 5, 6, 7, 8, 9, 10, 11, 12].map (fun i => (i, 0)) ++ [(13, 2)])) (by kernel_rfl) (by kernel_rfl) 46 rfl (by kernel_rfl) ?_
    simp only [List.map_cons, List.map_nil, opOf_succ, opOf_zero]
    apply Exists.intro
    refine ⟨fun C hC => ?_, ?_⟩
    · haveI hI := hC.one
      have f_0 := F_0 C hC
      have f_1 := F_1 C hC
      have f_2 := F_2 C hC
      have f_3 := F_3 C hC
      have f_4 := F_4 C hC
      have f_5 := F_5 C hC
      repeat (go_big_quiet_step (fail))
      exact wpQuiet_nil rfl
    clear F_0 F_1 F_2 F_3 F_4 F_5
    clear p0 p1 q0 q1 s0 s1
    refine wpPath_call (f := 25) (args := #[.agg #[.int .i64 J1, .slice a1 n1 c1], .agg #[.int .i64 J2, .slice a2 n2 c2]]) rfl rfl (fun W => by simp only [opOf_succ, opOf_zero]; go_simp) ?_
    intro A1 hA1
    refine (hj2 _ (below_on H7.out.2.2 hA1)).mono ?_
    rintro e A2 ⟨⟨k8, a8, n8, c8⟩, rfl, he8, hA2⟩
    refine ⟨_, rfl, hA2, ?_⟩
    simp only [opOf_succ, opOf_zero, Act.put, List.setIfInBounds_toArray, List.set_cons_zero, List.set_cons_succ]
    simp only [rv, sv]
    clear hj2
    have hb12 := below_on hA1 hA2
    have hr7 := H7.out.1.below hb12 H7.out.1.lt
    have el7 := H7.out.2.1.below hb12
    have p0 := hr7.c0
    have p1 : A2.cell? ⟨g7, 1, none⟩ = some (.slice a7 n7 c7) := hr7.c1
    have c1' := fun W (hW : Below A2.heap.size A2 W) => reg_true (w := W) (el7.below hW) (he8.below hW)
    have c2' := fun W (hW : Below A2.heap.size A2 W) => rsize_any k7 a7 n7 c7 GJ.2 W (el7.below hW).2.1 htj
    have c3' := fun W (hW : Below A2.heap.size A2 W) => size5_any a7 n7 c7 GJ.2 W (el7.below hW).2.1 htj
    obtain ⟨TZ, hTZ⟩ : ∃ TZ, TZ = tz GJ.2 := ⟨_, rfl⟩
    rw [← hTZ] at c2' c3'
    have HA := Lib.hid hb12
    clear hTZ hb12 hr7 el7 he8 hA1 hA2
    refine wpPath_on [4, 5, 6, 7, 8, 9, 10, 11, 12] 46 rfl (by kernel_rfl) ?_
    simp only [List.map_cons, List.map_nil, opOf_succ, opOf_zero]
    have F_0 := fun (C : World → Prop) (hC : Grows A2 C) (z : In C) => hC.cell p0 z
    have F_1 := fun (C : World → Prop) (hC : Grows A2 C) (z : In C) => hC.cell p1 z
    have F_2 := fun (C : World → Prop) (hC : Grows A2 C) (z : In C) => Calls.in_of hC (c1' z.W (hC.below _ z.isIn))
    have F_3 := fun (C : World → Prop) (hC : Grows A2 C) (z : In C) => Calls.in_of hC (c2' z.W (hC.below _ z.isIn))
    have F_4 := fun (C : World → Prop) (hC : Grows A2 C) (z : In C) => Calls.in_of_same hC (c3' z.W (hC.below _ z.isIn))
    clear p0 p1 c1' c2' c3'
    apply Exists.intro
    refine ⟨fun C hC => ?_, ?_⟩
    · haveI hI := hC.one
      have f_0 := F_0 C hC
      have f_1 := F_1 C hC
      have f_2 := F_2 C hC
      have f_3 := F_3 C hC
      have f_4 := F_4 C hC
      repeat (go_big_quiet_step (first | (go_at_call 23; exact f_2 _) | (go_at_call 26; exact f_3 _) | (go_at_call 12; exact f_4 _)))
      exact wpQuiet_nil rfl
    clear F_0 F_1 F_2 F_3 F_4
    refine wpPath_free (v := .bool true) rfl rfl (fun W => by simp only [opOf_succ, opOf_zero]; go_simp) ?_
    simp only [opOf_succ, opOf_zero, Act.put, List.setIfInBounds_toArray, List.set_cons_zero, List.set_cons_succ]
    refine wpPath_end fun A5 hA5 => ?_
    have HE := Lib.hid (HV.out.2.2.trans ((below_on H7.out.2.2 (below_on HA.out hA5)).mono HV.out.2.2.size))
    clear hA5
    go_wp2
    go_ret
    exact ⟨rfl, HE.out⟩
end Go.Proofs.Ytgfajagajiofnaa.RJo
