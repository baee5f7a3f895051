/-
  The law RegsPlay, walked.
-/
import Derived.Test.YtgfajagajiofnaaRz
import Derived.Test.YtgfajagajiofnaaRs
import Derived.Test.YtgfajagajiofnaaRt
import Derived.Deep.CutRange
import Derived.Deep.CutBlock
set_option linter.unusedVariables false
set_option linter.unusedSimpArgs false
set_option maxRecDepth 100000
namespace Go.Proofs.Ytgfajagajiofnaa.RPl
open Go Go.RowKit Go.Proofs.Ytgfajagajiofnaa.Vk Go.Proofs.Ytgfajagajiofnaa.Str Go.Proofs.Ytgfajagajiofnaa.Ln Go.Proofs.Ytgfajagajiofnaa.Cl Go.Proofs.Ytgfajagajiofnaa.Rl Go.Proofs.Ytgfajagajiofnaa.Rg
attribute [local go_sem] Oper.semAt_some

theorem u8_of {l : Int} (h : (Lit.int .u8 l).wf = true) : 0 ≤ l ∧ l ≤ 255 := by simpa [Lit.wf, show IntKind.u8.min = 0 from rfl, show IntKind.u8.max = 255 from rfl] using h
theorem tz_len (ls : List ByteArray) (M : Nat) (h : ∀ s ∈ ls, s.size ≤ M) : tz ls ≤ ls.length * (M + 1) := by
  induction ls with
  | nil => simp [tz]
  | cons x l ih =>
    rw [tz_cons, List.length_cons, Nat.succ_mul]
    have h1 := h x List.mem_cons_self
    have h2 := ih fun s hs => h s (List.mem_cons_of_mem _ hs)
    omega
/-- Both, as they stand in a round. -/
structure Rel (w : World) (b r : Nat) (L : ML G) (W : World) : Prop where
  fl : Fls W b (b + 1) b L
  rf : Rfg W b r L
  ok : Ok L
  bel : Below w.heap.size w W
theorem Rel.below {w W V : World} {b r : Nat} {L : ML G} (h : Rel w b r L W) (hb : Below W.heap.size W V) : Rel w b r L V := ⟨h.fl.below hb, h.rf.below hb, h.ok, h.bel.trans (hb.mono h.bel.size)⟩
theorem Rfg.apart {W : World} {B r m b : Nat} {L L' : ML G} (h : Rfg W B r L) (hf : Fls W B m b L') : ¬ RBlk W r m ∧ ¬ RBlk W r b := by
  obtain ⟨RL, h1, _⟩ := h
  exact Rg.apart h1 hf
theorem Rfg.new (w : World) (B : Nat) (hB : B ≤ w.heap.size) : Rfg (w.alloc (.cells #[.slice none 0 0, .slice none 0 0] 30)) B w.heap.size [] := ⟨[], (Rfs.new w).mono hB, trivial⟩
theorem Rel.no {w W V : World} {b r g : Nat} {L : ML G} (h : Rel w b r L W) (hb : Below W.heap.size W V) (hg : W.heap.size ≤ g) : ¬ (g = b ∨ RBlk V r g) := fun hk => by
  rcases hk with hk | hk
  · have := h.fl.blt
    omega
  · have := h.rf.rlt (hk.back (hb.block r h.rf.lt))
    omega

set_option maxHeartbeats 8000000 in
theorem walk (sa : Option Addr) (N cp : Nat) (ls : List RActs.ActD) (nm : Int) (w : World) (hm : RActs.Script w sa N cp ls) (hb : ∀ a ∈ ls, ∀ s ∈ a.zs, s.size ≤ 140737488355328) (wn : (Lit.int .u8 nm).wf = true) :
    Calls Try.prog 3 #[.slice sa N cp, .int .u8 nm] w fun e w' => e = .returned (.bool true) ∧ Below w.heap.size w w' := by
  obtain ⟨i0, hi0, hz0, hz1, hz2⟩ := info_parts infoS
  have hk := known_any w
  have hnm := u8_of wn
  obtain ⟨d, hd⟩ : ∃ d, d = nm.toNat := ⟨_, rfl⟩
  obtain rfl : nm = (d : Int) := by omega
  have hd256 : d < 256 := by omega
  have HMS := Lib.hid (And.intro hm hb)
  have hN63 : N ≤ 9223372036854775807 := Nat.le_trans hm.1 hm.2.1
  clear hnm hd wn hm hb
  go_enter Try.func3, Try.ntmps3
  go_wp2_with fail
  refine hk.mono ?_
  rintro e w1 ⟨rfl, hb1⟩
  have HB := Lib.hid hb1
  clear hk hb1
  by_cases h40 : 40 < N
  · go_wp2
    go_ret
    exact ⟨rfl, HB.out⟩
  go_wp2_with fail
  refine (new_any w1 w1.heap.size (Nat.le_refl _)).mono ?_
  rintro e w2 ⟨rfl, hm2, hb2⟩
  obtain ⟨b, hbq⟩ : ∃ b, b = w1.heap.size := ⟨_, rfl⟩
  rw [← hbq] at hm2
  rw [← hbq]
  have HF2 := Lib.hid (And.intro hm2 (And.intro (below_on HB.out hb2) (And.intro (show b ≤ w2.heap.size by rw [hbq]; exact hb2.size) (show w.heap.size ≤ b by rw [hbq]; exact HB.out.size))))
  clear hbq hm2 hb2
  go_wp2
  obtain ⟨w3, hw3⟩ : ∃ w3, w3 = w2.alloc (.cells #[.slice none 0 0, .slice none 0 0] 30) := ⟨_, rfl⟩
  have hb3 : Below w2.heap.size w2 w3 := by rw [hw3]; exact one_below _ _
  have hrf : Rfg w3 b w2.heap.size [] := by rw [hw3]; exact Rfg.new w2 b HF2.out.2.2.1
  rw [← hw3]
  obtain ⟨r, hr⟩ : ∃ r, r = w2.heap.size := ⟨_, rfl⟩
  rw [← hr] at hrf
  rw [← hr]
  have HR3 : Hid (Rel w b r [] w3) := ⟨HF2.out.1.below hb3, hrf, ok_nil, below_on HF2.out.2.1 hb3⟩
  clear hw3 hb3 hrf hr
  go_loopw [7] (fun i wr => ∃ (k : Nat) (L : ML G), k ≤ N ∧ i = .int .i64 k ∧ Hid (Rel w b r L wr)) (fun i _ => N - (RowKit.intOf i).toNat)
  case atStart => exact ⟨0, [], Nat.zero_le _, rfl, HR3.out⟩
  case round =>
    obtain ⟨k, L, hk, rfl, HR⟩ := hrel
    by_cases hkN : k < N
    rotate_left
    · obtain rfl : k = N := by omega
      go_wp2
      go_ret
      exact ⟨rfl, HR.out.bel⟩
    have hkl : k < ls.length := by have := HMS.out.1.2.2.1; omega
    obtain ⟨hfit, sb, so, hsa, hcs⟩ := HMS.out.1.2.2.2 k _ (List.getElem?_eq_getElem hkl)
    subst hsa
    have hbd := HMS.out.2 _ (List.getElem_mem hkl)
    have hcap := HMS.out.1.1
    generalize ls[k] = x at hfit hcs hbd
    obtain ⟨what, nme, kd, xa, xn, xc, zl, big⟩ := x
    obtain ⟨hw1, hw2, hsx⟩ := hfit
    simp only at hw1 hw2 hsx hbd
    have hu1 := u8_of hw1
    have hu2 := u8_of hw2
    obtain ⟨dw, hdw⟩ : ∃ dw, dw = what.toNat := ⟨_, rfl⟩
    obtain rfl : what = (dw : Int) := by omega
    obtain ⟨dn, hdn⟩ : ∃ dn, dn = nme.toNat := ⟨_, rfl⟩
    obtain rfl : nme = (dn : Int) := by omega
    have hdn256 : dn < 256 := by omega
    have hF := Fr.ofBelow HR.out.bel (fun _ => False)
    have f0 : wr.cell? ⟨sb, so + k * 5, none⟩ = some (.int .u8 (dw : Int)) := hF.cell (hcs 0 _ rfl) (by simp)
    have f1 : wr.cell? ⟨sb, so + k * 5 + 1, none⟩ = some (.int .u8 (dn : Int)) := hF.cell (hcs 1 _ rfl) (by simp)
    have f2 : wr.cell? ⟨sb, so + k * 5 + 2, none⟩ = some (.int .i64 kd) := hF.cell (hcs 2 _ rfl) (by simp)
    have f3 : wr.cell? ⟨sb, so + k * 5 + 3, none⟩ = some (.slice xa xn xc) := hF.cell (hcs 3 _ rfl) (by simp)
    have f4 : wr.cell? ⟨sb, so + k * 5 + 4, none⟩ = some (.bool big) := hF.cell (hcs 4 _ rfl) (by simp)
    have HS := Lib.hid hsx
    have hxl := Ss.length hsx
    have HBD := Lib.hid (And.intro hbd hxl)
    have hx63 := Ss.le63 hsx
    clear hcs hF hw1 hw2 hu1 hu2 hdw hdn hsx hbd hxl
    go_upto_region 10 with fail
    obtain ⟨w0, hw0⟩ : ∃ w0, w0 = wr.alloc (.cells #[.int .u8 (dw : Int), .int .u8 (dn : Int), .int .i64 kd, .slice xa xn xc, .bool big] 35) := ⟨_, rfl⟩
    have hb0 : Below wr.heap.size wr w0 := by rw [hw0]; exact one_below _ _
    have hact : w0.heap[wr.heap.size]? = some (.cells #[.int .u8 (dw : Int), .int .u8 (dn : Int), .int .i64 kd, .slice xa xn xc, .bool big] 35 (0, 0)) := by rw [hw0]; exact heap_alloc_new wr _
    rw [← hw0]
    obtain ⟨gx, hgx⟩ : ∃ gx, gx = wr.heap.size := ⟨_, rfl⟩
    rw [← hgx] at hact
    rw [← hgx]
    have x3 : w0.cell? ⟨gx, 3, none⟩ = some (.slice xa xn xc) := (cell_of_row w0 _ 3 _ _ _ hact).trans rfl
    have x2 : w0.cell? ⟨gx, 2, none⟩ = some (.int .i64 kd) := (cell_of_row w0 _ 2 _ _ _ hact).trans rfl
    have H0 := Lib.hid (And.intro hb0 (And.intro hact hgx))
    clear hw0 hb0 hact hgx f0 f1 f2 f3 f4
    by_cases h8 : 8 < xn
    · have e1 : (8 : Int) < (xn : Int) := by omega
      have HE := Lib.hid (HR.out.bel.trans (H0.out.1.mono HR.out.bel.size))
      go_wp2
      go_ret
      exact ⟨rfl, HE.out⟩
    have e1 : ¬ (8 : Int) < (xn : Int) := by omega
    have htz : tz zl ≤ 4000000000000000000 := by
      have h1 := tz_len zl _ HBD.out.1
      have h2 : zl.length * 140737488355329 ≤ 8 * 140737488355329 := Nat.mul_le_mul_right _ (by have := HBD.out.2; omega)
      omega
    have hsz := size5_any xa xn xc zl w0 (SrcV.below HS.out (HR.out.bel.trans (H0.out.1.mono HR.out.bel.size))) htz
    clear htz
    go_wp2_with fail
    refine hsz.mono ?_
    rintro e w' ⟨rfl, rfl⟩
    clear hsz e1
    obtain ⟨T, hT⟩ : ∃ T, T = tz zl := ⟨_, rfl⟩
    rw [← hT]
    by_cases hbig : 3000 < T
    · have e1 : (3000 : Int) < (T : Int) := by omega
      have HE := Lib.hid (HR.out.bel.trans (H0.out.1.mono HR.out.bel.size))
      clear hT
      go_wp2
      go_ret
      exact ⟨rfl, HE.out⟩
    have HT := Lib.hid (show tz zl ≤ 3000 by omega)
    have e1 : ¬ (3000 : Int) < (T : Int) := by omega
    have h8' := Lib.hid (show xn ≤ 8 by omega)
    clear hbig hT
    go_upto_region 13 with fail
    obtain ⟨w5, hw5⟩ : ∃ w5, w5 = w0.alloc (.cells #[.int .i64 kd, .slice xa xn xc] 33) := ⟨_, rfl⟩
    have hb5 : Below w0.heap.size w0 w5 := by rw [hw5]; exact one_below _ _
    have hr5 : RegAt w5 w0.heap.size (kd, xa, xn, xc) := by rw [hw5]; exact RegAt.new w0 (kd, xa, xn, xc)
    rw [← hw5]
    have hxs : gx < w0.heap.size := (Array.getElem?_eq_some_iff.1 H0.out.2.1).1
    have hws : wr.heap.size ≤ w0.heap.size := H0.out.1.size
    obtain ⟨g9, hg9⟩ : ∃ g9, g9 = w0.heap.size := ⟨_, rfl⟩
    rw [← hg9] at hr5 hxs hws
    rw [← hg9]
    have hact5 := (hb5.block gx (by omega)).trans H0.out.2.1
    have hb05 := below_on H0.out.1 hb5
    have H5 := Lib.hid (And.intro hr5 (And.intro hact5 (And.intro hxs (And.intro hws hb05))))
    have m0 := hr5.c0
    have z := hr5.z
    clear hw5 hb5 hr5 hg9 hxs hws hact5 hb05 x2 x3 e1
    obtain ⟨J, hJ⟩ : ∃ J, J = kp kd := ⟨_, rfl⟩
    have hpl := place3_any kd w5
    rw [← hJ] at hpl
    clear hJ
    go_wp2_with fail
    refine hpl.mono ?_
    rintro e w' ⟨rfl, rfl⟩
    clear hpl
    have hne : ¬ gx = g9 := by have := H5.out.2.2.1; omega
    have hne' : ¬ g9 = gx := fun e => hne e.symm
    have m4 : w5.cell? ⟨gx, 4, none⟩ = some (.bool big) := (cell_of_row w5 _ 4 _ _ _ H5.out.2.1).trans rfl
    have m5 : (w5.setCell ⟨g9, 0, none⟩ (.int .i64 J)).cell? ⟨gx, 4, none⟩ = some (.bool big) := (Fr.cell ((Fr.refl (fun j => j = g9) w5).setCell (p := ⟨g9, 0, none⟩) (fun _ => rfl) (.int .i64 J)) m4 (by simpa using hne))
    go_upto_if 56 with fail
    have hg9 : wr.heap.size ≤ g9 := H5.out.2.2.2.1
    have hr6 : RegAt (w5.setCell ⟨g9, 0, none⟩ (.int .i64 J)) g9 (J, xa, xn, xc) := (heap_setCell_same w5 g9 0 _ _ (.int .i64 J) H5.out.1).trans (by simp)
    have hF := (Fr.refl (fun j => j = g9) w5).setCell (p := ⟨g9, 0, none⟩) (fun _ => rfl) (.int .i64 J)
    have hact6 := (hF.block gx (Nat.lt_trans H5.out.2.2.1 H5.out.1.lt) (by have := H5.out.2.2.1; omega)).trans H5.out.2.1
    have hb6 : Below wr.heap.size wr (w5.setCell ⟨g9, 0, none⟩ (.int .i64 J)) := H5.out.2.2.2.2.setCell (p := ⟨g9, 0, none⟩) hg9 (.int .i64 J)
    obtain ⟨w6, hw6⟩ : ∃ w6, w6 = w5.setCell ⟨g9, 0, none⟩ (.int .i64 J) := ⟨_, rfl⟩
    rw [← hw6] at hr6 hact6 hb6
    rw [← hw6]
    have H9 := Lib.hid (And.intro hr6 (And.intro hact6 H5.out.2.2.1))
    have HB6 := Lib.hid (And.intro hb6 hg9)
    have HR6 := Lib.hid (HR.out.bel.trans (hb6.mono HR.out.bel.size))
    have HS6 := HS
    have p0 := hr6.c0
    have p1 : w6.cell? ⟨g9, 1, none⟩ = some (.slice xa xn xc) := hr6.c1
    have HG9 := Lib.hid hg9
    clear hw6 hF hr6 hact6 hb6 m0 m4 m5 hne hne' z hg9
    go_cut [9] from 57 to 64 (fun s9 wx => s9 = .pointer (some ⟨g9, 0, none⟩) ∧ Hid (∃ (ya : Option Addr) (yn yc : Nat) (yl : List ByteArray), RegAt wx g9 (J, ya, yn, yc) ∧ El wx b (J, ya, yn, yc) (J, yl) ∧ tz yl ≤ 4600 ∧ Rel w b r L wx ∧ wx.heap[gx]? = some (.cells #[.int .u8 (dw : Int), .int .u8 (dn : Int), .int .i64 kd, .slice xa xn xc, .bool big] 35 (0, 0)) ∧ Below wr.heap.size wr wx))
    case first =>
      cases big with
      | false =>
        have HE : Hid (∃ (ya : Option Addr) (yn yc : Nat) (yl : List ByteArray), RegAt w6 g9 (J, ya, yn, yc) ∧ El w6 b (J, ya, yn, yc) (J, yl) ∧ tz yl ≤ 4600 ∧ Rel w b r L w6 ∧ w6.heap[gx]? = some (.cells #[.int .u8 (dw : Int), .int .u8 (dn : Int), .int .i64 kd, .slice xa xn xc, .bool false] 35 (0, 0)) ∧ Below wr.heap.size wr w6) :=
          ⟨xa, xn, xc, zl, H9.out.1, ⟨rfl, SrcV.below HS.out HR6.out, fun h0 j hj => .inl (by have h1 := SrcV.blkLt HS.out (show 0 < xn * 1 by have : 0 < xn := h0; omega) j hj; have := HF2.out.2.2.2; omega)⟩, by have := HT.out; omega, HR.out.below HB6.out.1, H9.out.2.1, HB6.out.1⟩
        clear p0 p1
        go_wp2
        go_meet
        case rel => exact ⟨rfl, HE⟩
      | true =>
        have hx8 : xn ≤ 8 := h8'.out
        go_wp2_with fail
        have F_0 := fun (C : World → Prop) (hC : Vs.Grows (fun j => w6.heap.size ≤ j) w6 C) (z : Vs.In C) => hC.cell p1 (by simp only; have := H9.out.1.lt; omega) z
        clear p0 p1
        refine Vs.wp_region_tree (S := fun j => w6.heap.size ≤ j) [8] (.fork ([0, 1].map (fun i => (i, 0)) ++ []) 2 3 (.path [(3, 1), (4, 1), (5, 1), (6, 1), (7, 2), (8, 3)]) (.fork [] 2 4 (.path [(4, 1), (5, 1), (6, 1), (7, 2), (8, 3)]) (.fork [] 2 5 (.path [(5, 1), (6, 1), (7, 2), (8, 3)]) (.path [(2, 1), (6, 1), (7, 2), (8, 3)])))) (by kernel_rfl) (by kernel_rfl) ?_
        refine Vs.wpTr_fork (Vs.wpPath_on [0, 1] 148 rfl (by kernel_rfl) ?_)
        simp only [List.map_cons, List.map_nil, Vs.opOf_succ, Vs.opOf_zero]
        apply Exists.intro
        refine ⟨fun C hC => ?_, ?_⟩
        · haveI hI := hC.one
          have f_0 := F_0 C hC
          repeat (go_big_quiet_step (fail))
          exact wpQuiet_nil rfl
        clear F_0
        intro u hu
        have FX : Fr (fun j => w6.heap.size ≤ j) w6 u := Fr.ofBelow hu _
        clear hu
        refine ⟨?_, ?_⟩
        · intro u hu
          have FX := FX.trans (Fr.ofBelow hu _)
          clear hu
          have hbu := HR6.out.trans (FX.below HR6.out.size (fun j e => Nat.le_trans HR6.out.size e))
          obtain ⟨d1, e1', v, hr1, own1, hg1, _⟩ := run_append_srcv (P := Try.prog) u 31 31 w6.heap.size ES i0 (.string ⟨#[]⟩) 1 16 underS hi0 hz0 hz1 hz2 rfl (by decide) (.slice none 0 0) 0 [] (World.ownsRow_nil _ _ _ _) (.slice xa xn xc) xn _ (SrcV.below HS6.out hbu) (by simp only [maxLen]; omega) (by omega) FX.size
          have hbv : Below u.heap.size u v := (Below.refl _ u).grown hg1 (Nat.le_refl _) (fun k e => by cases e)
          refine Vs.fork_make rfl rfl (by simp only [Vs.opOf_succ, Vs.opOf_zero]; exact exec_append rfl rfl rfl hr1) ?_
          refine ⟨(Fr.refl _ u).grown hg1 (fun k hk => by cases hk), ?_⟩
          simp only [Vs.opOf_succ, Vs.opOf_zero, Act.put, List.setIfInBounds_toArray, List.set_cons_zero, List.set_cons_succ]
          clear hr1 hg1 hbu
          have FX := FX.trans (Fr.ofBelow hbv _)
          clear hbv
          refine Vs.wpTr_path ?_
          refine Vs.wpPath_make rfl fun u hu => ?_
          have FX := FX.trans (Fr.ofBelow hu _)
          have own1 := ownsRow_fr own1 (Fr.ofBelow hu (fun _ => False)) (fun _ _ h => h)
          clear hu
          obtain ⟨v, hmk, hbv, _, hz⟩ := mkz u 1500 (by omega)
          have hmk : (Instr.makeSlice 27 (.int .i64 1500) (.int .i64 1500)).run Try.prog u = .ok (.slice (some ⟨u.heap.size, 0, none⟩) 1500 1500) v := hmk
          refine ⟨.slice (some ⟨u.heap.size, 0, none⟩) 1500 1500, v, rfl, by simp only [Vs.opOf_succ, Vs.opOf_zero]; go_simp, Fr.ofBelow hbv _, ?_⟩
          simp only [Vs.opOf_succ, Vs.opOf_zero, Act.put, List.setIfInBounds_toArray, List.set_cons_zero, List.set_cons_succ]
          obtain ⟨gz1, hgz1⟩ : ∃ gz1, gz1 = u.heap.size := ⟨_, rfl⟩
          rw [← hgz1]
          have hz : ∀ V, Below v.heap.size v V → (convert 27 9 (.slice (some ⟨gz1, 0, none⟩) 1500 1500)).run Try.prog V = .ok (.string (zs 1500)) V := by rw [hgz1]; exact hz
          clear hgz1 hmk
          have FX := FX.trans (Fr.ofBelow hbv _)
          have own1 := ownsRow_fr own1 (Fr.ofBelow hbv (fun _ => False)) (fun _ _ h => h)
          clear hbv
          refine Vs.wpPath_make rfl fun u hu => ?_
          have FX := FX.trans (Fr.ofBelow hu _)
          have own1 := ownsRow_fr own1 (Fr.ofBelow hu (fun _ => False)) (fun _ _ h => h)
          have hz := fun V hV => hz V (below_on hu hV)
          clear hu
          have hz4 := hz u (Below.refl _ _)
          refine ⟨.string (zs 1500), u, rfl, by simp only [Vs.opOf_succ, Vs.opOf_zero]; go_simp, Fr.refl _ _, ?_⟩
          simp only [Vs.opOf_succ, Vs.opOf_zero, Act.put, List.setIfInBounds_toArray, List.set_cons_zero, List.set_cons_succ]
          obtain ⟨v, hv⟩ : ∃ v, v = u := ⟨_, rfl⟩
          have hbv : Below u.heap.size u v := by rw [hv]; exact Below.refl _ _
          rw [← hv]
          clear hv hz4
          have FX := FX.trans (Fr.ofBelow hbv _)
          have own1 := ownsRow_fr own1 (Fr.ofBelow hbv (fun _ => False)) (fun _ _ h => h)
          have hz := fun V hV => hz V (below_on hbv hV)
          clear hbv
          refine Vs.wpPath_make rfl fun u hu => ?_
          have FX := FX.trans (Fr.ofBelow hu _)
          have own1 := ownsRow_fr own1 (Fr.ofBelow hu (fun _ => False)) (fun _ _ h => h)
          have hz := fun V hV => hz V (below_on hu hV)
          clear hu
          refine ⟨.slice (some ⟨u.heap.size, 0, none⟩) 1 1, u.alloc (.cells #[.string (zs 1500)] ES), rfl, by simp only [Vs.opOf_succ, Vs.opOf_zero]; go_simp, Fr.ofBelow (one_below _ _) _, ?_⟩
          simp only [Vs.opOf_succ, Vs.opOf_zero, Act.put, List.setIfInBounds_toArray, List.set_cons_zero, List.set_cons_succ]
          have hs1 : Ss (u.alloc (.cells #[.string (zs 1500)] ES)) (some ⟨u.heap.size, 0, none⟩) 1 1 [zs 1500] := SrcV.lit u #[.string (zs 1500)] ES 1 rfl (by simp [Value.oneCell']) (by simp [maxLen])
          obtain ⟨v, hv⟩ : ∃ v, v = u.alloc (.cells #[.string (zs 1500)] ES) := ⟨_, rfl⟩
          have hbv : Below u.heap.size u v := by rw [hv]; exact one_below _ _
          obtain ⟨gs, hgs⟩ : ∃ gs, gs = u.heap.size := ⟨_, rfl⟩
          rw [← hv, ← hgs] at hs1
          rw [← hv, ← hgs]
          clear hv hgs
          have FX := FX.trans (Fr.ofBelow hbv _)
          have own1 := ownsRow_fr own1 (Fr.ofBelow hbv (fun _ => False)) (fun _ _ h => h)
          have hz := fun V hV => hz V (below_on hbv hV)
          clear hbv
          refine Vs.wpPath_make rfl fun u2 hu2 => ?_
          have FX := FX.trans (Fr.ofBelow hu2 _)
          have own1 := ownsRow_fr own1 (Fr.ofBelow hu2 (fun _ => False)) (fun _ _ h => h)
          have hs1 := SrcV.below hs1 hu2
          obtain ⟨ra, rc, u3, hr3, own3, hg3, _⟩ := run_append_srcv (P := Try.prog) u2 31 31 w6.heap.size ES i0 (.string ⟨#[]⟩) 1 16 underS hi0 hz0 hz1 hz2 rfl (by decide) (.slice d1 (0 + xn) e1') (0 + xn) _ own1 _ 1 _ hs1 (by simp only [maxLen]; omega) (by omega) FX.size
          refine ⟨_, u3, rfl, by simp only [Vs.opOf_succ, Vs.opOf_zero]; exact exec_append rfl rfl rfl hr3, (Fr.refl _ u2).grown hg3 (fun k hk _ => (own1.lt k hk).1), ?_⟩
          simp only [Vs.opOf_succ, Vs.opOf_zero, Act.put, List.setIfInBounds_toArray, List.set_cons_zero, List.set_cons_succ]
          have FX := FX.grown hg3 (fun k hk _ => (own1.lt k hk).1)
          rw [List.nil_append, ← List.map_append] at own3
          clear hr3 hg3 own1 hs1 hu2 hz
          obtain ⟨rn, hrn⟩ : ∃ rn, rn = 0 + xn + 1 := ⟨_, rfl⟩
          rw [← hrn] at own3
          rw [← hrn]
          clear hrn
          refine Vs.wpPath_free (v := .pointer (some ⟨g9, 1, none⟩)) rfl rfl (fun W => by simp only [Vs.opOf_succ, Vs.opOf_zero]; go_simp) ?_
          simp only [Vs.opOf_succ, Vs.opOf_zero, Act.put, List.setIfInBounds_toArray, List.set_cons_zero, List.set_cons_succ]
          refine Vs.wpPath_store rfl fun A3 hA3 => ?_
          have FX := FX.trans (Fr.ofBelow hA3 _)
          have hr9 := H9.out.1.fr FX (by have := H9.out.1.lt; omega)
          have hact := (FX.block gx (Nat.lt_trans H9.out.2.2 H9.out.1.lt) (by have := H9.out.1.lt; have := H9.out.2.2; omega)).trans H9.out.2.1
          have own3 := ownsRow_fr own3 (Fr.ofBelow hA3 (fun _ => False)) (fun _ _ h => h)
          have hwr : Below wr.heap.size wr A3 := HB6.out.1.trans (FX.below HB6.out.1.size (fun j e => Nat.le_trans HB6.out.1.size e))
          have m1 : A3.cell? ⟨g9, 1, none⟩ = some (.slice xa xn xc) := hr9.c1
          have z := hr9.z
          refine ⟨A3.setCell ⟨g9, 1, none⟩ (.slice ra rn rc), rfl, by simp only [Vs.opOf_succ, Vs.opOf_zero]; go_simp, ?_⟩
          simp only [Vs.opOf_succ, Vs.opOf_zero, Act.put, List.setIfInBounds_toArray, List.set_cons_zero, List.set_cons_succ]
          refine Vs.wpPath_end fun A4 hA4 => ?_
          have hg9 : wr.heap.size ≤ g9 := HB6.out.2
          have hbg9 : b ≤ g9 := Nat.le_trans (Nat.le_of_lt HR.out.fl.blt) hg9
          have hF := ((Fr.refl (fun j => j = g9) A3).setCell (p := ⟨g9, 1, none⟩) (fun _ => rfl) (.slice ra rn rc)).trans (Fr.ofBelow hA4 (fun j => j = g9))
          have hr9' : RegAt (A3.setCell ⟨g9, 1, none⟩ (.slice ra rn rc)) g9 (J, ra, rn, rc) := (heap_setCell_same A3 g9 1 _ _ (.slice ra rn rc) hr9).trans (by simp [sv])
          have hel : El A4 b (J, ra, rn, rc) (J, zl ++ [zs 1500]) := (El.own (B := b) (k := J) own3).fr hF (fun j hj h => hr9.ro hbg9 (hj ▸ h))
          have hwr4 := (hwr.setCell (p := ⟨g9, 1, none⟩) hg9 (.slice ra rn rc)).trans (hA4.mono (by have := hwr.size; simpa [World.setCell] using this))
          have hact4 := (hF.block gx (Array.getElem?_eq_some_iff.1 hact).1 (by have := H9.out.2.2; omega)).trans hact
          have HE : Hid (∃ (ya : Option Addr) (yn yc : Nat) (yl : List ByteArray), RegAt A4 g9 (J, ya, yn, yc) ∧ El A4 b (J, ya, yn, yc) (J, yl) ∧ tz yl ≤ 4600 ∧ Rel w b r L A4 ∧ A4.heap[gx]? = some (.cells #[.int .u8 (dw : Int), .int .u8 (dn : Int), .int .i64 kd, .slice xa xn xc, .bool true] 35 (0, 0)) ∧ Below wr.heap.size wr A4) :=
            ⟨ra, rn, rc, zl ++ [zs 1500], hr9'.below hA4 (by have := hr9.lt; simpa [World.setCell] using this), hel, by rw [tz_append]; have h1 := HT.out; show tz zl + tz [zs 1500] ≤ 4600; rw [tz_cons, tz_nil, zs_size]; omega, HR.out.below hwr4, hact4, hwr4⟩
          clear FX own3 hF hr9 hr9' hel hwr hwr4 hact hact4 hA3 hA4 m1 z hg9 hbg9
          go_wp2
          go_meet
          case rel => exact ⟨rfl, HE⟩
        · intro u hu
          have FX := FX.trans (Fr.ofBelow hu _)
          clear hu
          obtain ⟨v, hmk, hbv, _, hz⟩ := mkz u 1500 (by omega)
          have hmk : (Instr.makeSlice 27 (.int .i64 1500) (.int .i64 1500)).run Try.prog u = .ok (.slice (some ⟨u.heap.size, 0, none⟩) 1500 1500) v := hmk
          refine Vs.fork_make (W' := v) (u := .slice (some ⟨u.heap.size, 0, none⟩) 1500 1500) rfl rfl (by simp only [Vs.opOf_succ, Vs.opOf_zero]; go_simp) ?_
          refine ⟨Fr.ofBelow hbv _, ?_⟩
          simp only [Vs.opOf_succ, Vs.opOf_zero, Act.put, List.setIfInBounds_toArray, List.set_cons_zero, List.set_cons_succ]
          obtain ⟨gz1, hgz1⟩ : ∃ gz1, gz1 = u.heap.size := ⟨_, rfl⟩
          rw [← hgz1]
          have hz : ∀ V, Below v.heap.size v V → (convert 27 9 (.slice (some ⟨gz1, 0, none⟩) 1500 1500)).run Try.prog V = .ok (.string (zs 1500)) V := by rw [hgz1]; exact hz
          clear hgz1 hmk
          have FX := FX.trans (Fr.ofBelow hbv _)
          clear hbv
          refine Vs.wpTr_fork ?_
          intro u hu
          have FX := FX.trans (Fr.ofBelow hu _)
          have hz := fun V hV => hz V (below_on hu hV)
          clear hu
          refine ⟨?_, ?_⟩
          · intro u hu
            have FX := FX.trans (Fr.ofBelow hu _)
            have hz := fun V hV => hz V (below_on hu hV)
            clear hu
            have hbu := HR6.out.trans (FX.below HR6.out.size (fun j e => Nat.le_trans HR6.out.size e))
            obtain ⟨d1, e1', v, hr1, own1, hg1, _⟩ := run_append_srcv (P := Try.prog) u 31 31 w6.heap.size ES i0 (.string ⟨#[]⟩) 1 16 underS hi0 hz0 hz1 hz2 rfl (by decide) (.slice none 0 0) 0 [] (World.ownsRow_nil _ _ _ _) (.slice xa xn xc) xn _ (SrcV.below HS6.out hbu) (by simp only [maxLen]; omega) (by omega) FX.size
            have hbv : Below u.heap.size u v := (Below.refl _ u).grown hg1 (Nat.le_refl _) (fun k e => by cases e)
            refine Vs.fork_make rfl rfl (by simp only [Vs.opOf_succ, Vs.opOf_zero]; exact exec_append rfl rfl rfl hr1) ?_
            refine ⟨(Fr.refl _ u).grown hg1 (fun k hk => by cases hk), ?_⟩
            simp only [Vs.opOf_succ, Vs.opOf_zero, Act.put, List.setIfInBounds_toArray, List.set_cons_zero, List.set_cons_succ]
            clear hr1 hg1 hbu
            have FX := FX.trans (Fr.ofBelow hbv _)
            have hz := fun V hV => hz V (below_on hbv hV)
            clear hbv
            refine Vs.wpTr_path ?_
            refine Vs.wpPath_make rfl fun u hu => ?_
            have FX := FX.trans (Fr.ofBelow hu _)
            have own1 := ownsRow_fr own1 (Fr.ofBelow hu (fun _ => False)) (fun _ _ h => h)
            have hz := fun V hV => hz V (below_on hu hV)
            clear hu
            have hz4 := hz u (Below.refl _ _)
            refine ⟨.string (zs 1500), u, rfl, by simp only [Vs.opOf_succ, Vs.opOf_zero]; go_simp, Fr.refl _ _, ?_⟩
            simp only [Vs.opOf_succ, Vs.opOf_zero, Act.put, List.setIfInBounds_toArray, List.set_cons_zero, List.set_cons_succ]
            obtain ⟨v, hv⟩ : ∃ v, v = u := ⟨_, rfl⟩
            have hbv : Below u.heap.size u v := by rw [hv]; exact Below.refl _ _
            rw [← hv]
            clear hv hz4
            have FX := FX.trans (Fr.ofBelow hbv _)
            have own1 := ownsRow_fr own1 (Fr.ofBelow hbv (fun _ => False)) (fun _ _ h => h)
            have hz := fun V hV => hz V (below_on hbv hV)
            clear hbv
            refine Vs.wpPath_make rfl fun u hu => ?_
            have FX := FX.trans (Fr.ofBelow hu _)
            have own1 := ownsRow_fr own1 (Fr.ofBelow hu (fun _ => False)) (fun _ _ h => h)
            have hz := fun V hV => hz V (below_on hu hV)
            clear hu
            refine ⟨.slice (some ⟨u.heap.size, 0, none⟩) 1 1, u.alloc (.cells #[.string (zs 1500)] ES), rfl, by simp only [Vs.opOf_succ, Vs.opOf_zero]; go_simp, Fr.ofBelow (one_below _ _) _, ?_⟩
            simp only [Vs.opOf_succ, Vs.opOf_zero, Act.put, List.setIfInBounds_toArray, List.set_cons_zero, List.set_cons_succ]
            have hs1 : Ss (u.alloc (.cells #[.string (zs 1500)] ES)) (some ⟨u.heap.size, 0, none⟩) 1 1 [zs 1500] := SrcV.lit u #[.string (zs 1500)] ES 1 rfl (by simp [Value.oneCell']) (by simp [maxLen])
            obtain ⟨v, hv⟩ : ∃ v, v = u.alloc (.cells #[.string (zs 1500)] ES) := ⟨_, rfl⟩
            have hbv : Below u.heap.size u v := by rw [hv]; exact one_below _ _
            obtain ⟨gs, hgs⟩ : ∃ gs, gs = u.heap.size := ⟨_, rfl⟩
            rw [← hv, ← hgs] at hs1
            rw [← hv, ← hgs]
            clear hv hgs
            have FX := FX.trans (Fr.ofBelow hbv _)
            have own1 := ownsRow_fr own1 (Fr.ofBelow hbv (fun _ => False)) (fun _ _ h => h)
            have hz := fun V hV => hz V (below_on hbv hV)
            clear hbv
            refine Vs.wpPath_make rfl fun u2 hu2 => ?_
            have FX := FX.trans (Fr.ofBelow hu2 _)
            have own1 := ownsRow_fr own1 (Fr.ofBelow hu2 (fun _ => False)) (fun _ _ h => h)
            have hs1 := SrcV.below hs1 hu2
            obtain ⟨ra, rc, u3, hr3, own3, hg3, _⟩ := run_append_srcv (P := Try.prog) u2 31 31 w6.heap.size ES i0 (.string ⟨#[]⟩) 1 16 underS hi0 hz0 hz1 hz2 rfl (by decide) (.slice d1 (0 + xn) e1') (0 + xn) _ own1 _ 1 _ hs1 (by simp only [maxLen]; omega) (by omega) FX.size
            refine ⟨_, u3, rfl, by simp only [Vs.opOf_succ, Vs.opOf_zero]; exact exec_append rfl rfl rfl hr3, (Fr.refl _ u2).grown hg3 (fun k hk _ => (own1.lt k hk).1), ?_⟩
            simp only [Vs.opOf_succ, Vs.opOf_zero, Act.put, List.setIfInBounds_toArray, List.set_cons_zero, List.set_cons_succ]
            have FX := FX.grown hg3 (fun k hk _ => (own1.lt k hk).1)
            rw [List.nil_append, ← List.map_append] at own3
            clear hr3 hg3 own1 hs1 hu2 hz
            obtain ⟨rn, hrn⟩ : ∃ rn, rn = 0 + xn + 1 := ⟨_, rfl⟩
            rw [← hrn] at own3
            rw [← hrn]
            clear hrn
            refine Vs.wpPath_free (v := .pointer (some ⟨g9, 1, none⟩)) rfl rfl (fun W => by simp only [Vs.opOf_succ, Vs.opOf_zero]; go_simp) ?_
            simp only [Vs.opOf_succ, Vs.opOf_zero, Act.put, List.setIfInBounds_toArray, List.set_cons_zero, List.set_cons_succ]
            refine Vs.wpPath_store rfl fun A3 hA3 => ?_
            have FX := FX.trans (Fr.ofBelow hA3 _)
            have hr9 := H9.out.1.fr FX (by have := H9.out.1.lt; omega)
            have hact := (FX.block gx (Nat.lt_trans H9.out.2.2 H9.out.1.lt) (by have := H9.out.1.lt; have := H9.out.2.2; omega)).trans H9.out.2.1
            have own3 := ownsRow_fr own3 (Fr.ofBelow hA3 (fun _ => False)) (fun _ _ h => h)
            have hwr : Below wr.heap.size wr A3 := HB6.out.1.trans (FX.below HB6.out.1.size (fun j e => Nat.le_trans HB6.out.1.size e))
            have m1 : A3.cell? ⟨g9, 1, none⟩ = some (.slice xa xn xc) := hr9.c1
            have z := hr9.z
            refine ⟨A3.setCell ⟨g9, 1, none⟩ (.slice ra rn rc), rfl, by simp only [Vs.opOf_succ, Vs.opOf_zero]; go_simp, ?_⟩
            simp only [Vs.opOf_succ, Vs.opOf_zero, Act.put, List.setIfInBounds_toArray, List.set_cons_zero, List.set_cons_succ]
            refine Vs.wpPath_end fun A4 hA4 => ?_
            have hg9 : wr.heap.size ≤ g9 := HB6.out.2
            have hbg9 : b ≤ g9 := Nat.le_trans (Nat.le_of_lt HR.out.fl.blt) hg9
            have hF := ((Fr.refl (fun j => j = g9) A3).setCell (p := ⟨g9, 1, none⟩) (fun _ => rfl) (.slice ra rn rc)).trans (Fr.ofBelow hA4 (fun j => j = g9))
            have hr9' : RegAt (A3.setCell ⟨g9, 1, none⟩ (.slice ra rn rc)) g9 (J, ra, rn, rc) := (heap_setCell_same A3 g9 1 _ _ (.slice ra rn rc) hr9).trans (by simp [sv])
            have hel : El A4 b (J, ra, rn, rc) (J, zl ++ [zs 1500]) := (El.own (B := b) (k := J) own3).fr hF (fun j hj h => hr9.ro hbg9 (hj ▸ h))
            have hwr4 := (hwr.setCell (p := ⟨g9, 1, none⟩) hg9 (.slice ra rn rc)).trans (hA4.mono (by have := hwr.size; simpa [World.setCell] using this))
            have hact4 := (hF.block gx (Array.getElem?_eq_some_iff.1 hact).1 (by have := H9.out.2.2; omega)).trans hact
            have HE : Hid (∃ (ya : Option Addr) (yn yc : Nat) (yl : List ByteArray), RegAt A4 g9 (J, ya, yn, yc) ∧ El A4 b (J, ya, yn, yc) (J, yl) ∧ tz yl ≤ 4600 ∧ Rel w b r L A4 ∧ A4.heap[gx]? = some (.cells #[.int .u8 (dw : Int), .int .u8 (dn : Int), .int .i64 kd, .slice xa xn xc, .bool true] 35 (0, 0)) ∧ Below wr.heap.size wr A4) :=
              ⟨ra, rn, rc, zl ++ [zs 1500], hr9'.below hA4 (by have := hr9.lt; simpa [World.setCell] using this), hel, by rw [tz_append]; have h1 := HT.out; show tz zl + tz [zs 1500] ≤ 4600; rw [tz_cons, tz_nil, zs_size]; omega, HR.out.below hwr4, hact4, hwr4⟩
            clear FX own3 hF hr9 hr9' hel hwr hwr4 hact hact4 hA3 hA4 m1 z hg9 hbg9
            go_wp2
            go_meet
            case rel => exact ⟨rfl, HE⟩
          · intro u hu
            have FX := FX.trans (Fr.ofBelow hu _)
            have hz := fun V hV => hz V (below_on hu hV)
            clear hu
            have hz4 := hz u (Below.refl _ _)
            refine Vs.fork_make (W' := u) (u := .string (zs 1500)) rfl rfl (by simp only [Vs.opOf_succ, Vs.opOf_zero]; go_simp) ?_
            refine ⟨Fr.refl _ _, ?_⟩
            simp only [Vs.opOf_succ, Vs.opOf_zero, Act.put, List.setIfInBounds_toArray, List.set_cons_zero, List.set_cons_succ]
            obtain ⟨v, hv⟩ : ∃ v, v = u := ⟨_, rfl⟩
            have hbv : Below u.heap.size u v := by rw [hv]; exact Below.refl _ _
            rw [← hv]
            clear hv hz4
            have FX := FX.trans (Fr.ofBelow hbv _)
            have hz := fun V hV => hz V (below_on hbv hV)
            clear hbv
            refine Vs.wpTr_fork ?_
            intro u hu
            have FX := FX.trans (Fr.ofBelow hu _)
            have hz := fun V hV => hz V (below_on hu hV)
            clear hu
            refine ⟨?_, ?_⟩
            · intro u hu
              have FX := FX.trans (Fr.ofBelow hu _)
              have hz := fun V hV => hz V (below_on hu hV)
              clear hu
              have hbu := HR6.out.trans (FX.below HR6.out.size (fun j e => Nat.le_trans HR6.out.size e))
              obtain ⟨d1, e1', v, hr1, own1, hg1, _⟩ := run_append_srcv (P := Try.prog) u 31 31 w6.heap.size ES i0 (.string ⟨#[]⟩) 1 16 underS hi0 hz0 hz1 hz2 rfl (by decide) (.slice none 0 0) 0 [] (World.ownsRow_nil _ _ _ _) (.slice xa xn xc) xn _ (SrcV.below HS6.out hbu) (by simp only [maxLen]; omega) (by omega) FX.size
              have hbv : Below u.heap.size u v := (Below.refl _ u).grown hg1 (Nat.le_refl _) (fun k e => by cases e)
              refine Vs.fork_make rfl rfl (by simp only [Vs.opOf_succ, Vs.opOf_zero]; exact exec_append rfl rfl rfl hr1) ?_
              refine ⟨(Fr.refl _ u).grown hg1 (fun k hk => by cases hk), ?_⟩
              simp only [Vs.opOf_succ, Vs.opOf_zero, Act.put, List.setIfInBounds_toArray, List.set_cons_zero, List.set_cons_succ]
              clear hr1 hg1 hbu
              have FX := FX.trans (Fr.ofBelow hbv _)
              have hz := fun V hV => hz V (below_on hbv hV)
              clear hbv
              refine Vs.wpTr_path ?_
              refine Vs.wpPath_make rfl fun u hu => ?_
              have FX := FX.trans (Fr.ofBelow hu _)
              have own1 := ownsRow_fr own1 (Fr.ofBelow hu (fun _ => False)) (fun _ _ h => h)
              have hz := fun V hV => hz V (below_on hu hV)
              clear hu
              refine ⟨.slice (some ⟨u.heap.size, 0, none⟩) 1 1, u.alloc (.cells #[.string (zs 1500)] ES), rfl, by simp only [Vs.opOf_succ, Vs.opOf_zero]; go_simp, Fr.ofBelow (one_below _ _) _, ?_⟩
              simp only [Vs.opOf_succ, Vs.opOf_zero, Act.put, List.setIfInBounds_toArray, List.set_cons_zero, List.set_cons_succ]
              have hs1 : Ss (u.alloc (.cells #[.string (zs 1500)] ES)) (some ⟨u.heap.size, 0, none⟩) 1 1 [zs 1500] := SrcV.lit u #[.string (zs 1500)] ES 1 rfl (by simp [Value.oneCell']) (by simp [maxLen])
              obtain ⟨v, hv⟩ : ∃ v, v = u.alloc (.cells #[.string (zs 1500)] ES) := ⟨_, rfl⟩
              have hbv : Below u.heap.size u v := by rw [hv]; exact one_below _ _
              obtain ⟨gs, hgs⟩ : ∃ gs, gs = u.heap.size := ⟨_, rfl⟩
              rw [← hv, ← hgs] at hs1
              rw [← hv, ← hgs]
              clear hv hgs
              have FX := FX.trans (Fr.ofBelow hbv _)
              have own1 := ownsRow_fr own1 (Fr.ofBelow hbv (fun _ => False)) (fun _ _ h => h)
              have hz := fun V hV => hz V (below_on hbv hV)
              clear hbv
              refine Vs.wpPath_make rfl fun u2 hu2 => ?_
              have FX := FX.trans (Fr.ofBelow hu2 _)
              have own1 := ownsRow_fr own1 (Fr.ofBelow hu2 (fun _ => False)) (fun _ _ h => h)
              have hs1 := SrcV.below hs1 hu2
              obtain ⟨ra, rc, u3, hr3, own3, hg3, _⟩ := run_append_srcv (P := Try.prog) u2 31 31 w6.heap.size ES i0 (.string ⟨#[]⟩) 1 16 underS hi0 hz0 hz1 hz2 rfl (by decide) (.slice d1 (0 + xn) e1') (0 + xn) _ own1 _ 1 _ hs1 (by simp only [maxLen]; omega) (by omega) FX.size
              refine ⟨_, u3, rfl, by simp only [Vs.opOf_succ, Vs.opOf_zero]; exact exec_append rfl rfl rfl hr3, (Fr.refl _ u2).grown hg3 (fun k hk _ => (own1.lt k hk).1), ?_⟩
              simp only [Vs.opOf_succ, Vs.opOf_zero, Act.put, List.setIfInBounds_toArray, List.set_cons_zero, List.set_cons_succ]
              have FX := FX.grown hg3 (fun k hk _ => (own1.lt k hk).1)
              rw [List.nil_append, ← List.map_append] at own3
              clear hr3 hg3 own1 hs1 hu2 hz
              obtain ⟨rn, hrn⟩ : ∃ rn, rn = 0 + xn + 1 := ⟨_, rfl⟩
              rw [← hrn] at own3
              rw [← hrn]
              clear hrn
              refine Vs.wpPath_free (v := .pointer (some ⟨g9, 1, none⟩)) rfl rfl (fun W => by simp only [Vs.opOf_succ, Vs.opOf_zero]; go_simp) ?_
              simp only [Vs.opOf_succ, Vs.opOf_zero, Act.put, List.setIfInBounds_toArray, List.set_cons_zero, List.set_cons_succ]
              refine Vs.wpPath_store rfl fun A3 hA3 => ?_
              have FX := FX.trans (Fr.ofBelow hA3 _)
              have hr9 := H9.out.1.fr FX (by have := H9.out.1.lt; omega)
              have hact := (FX.block gx (Nat.lt_trans H9.out.2.2 H9.out.1.lt) (by have := H9.out.1.lt; have := H9.out.2.2; omega)).trans H9.out.2.1
              have own3 := ownsRow_fr own3 (Fr.ofBelow hA3 (fun _ => False)) (fun _ _ h => h)
              have hwr : Below wr.heap.size wr A3 := HB6.out.1.trans (FX.below HB6.out.1.size (fun j e => Nat.le_trans HB6.out.1.size e))
              have m1 : A3.cell? ⟨g9, 1, none⟩ = some (.slice xa xn xc) := hr9.c1
              have z := hr9.z
              refine ⟨A3.setCell ⟨g9, 1, none⟩ (.slice ra rn rc), rfl, by simp only [Vs.opOf_succ, Vs.opOf_zero]; go_simp, ?_⟩
              simp only [Vs.opOf_succ, Vs.opOf_zero, Act.put, List.setIfInBounds_toArray, List.set_cons_zero, List.set_cons_succ]
              refine Vs.wpPath_end fun A4 hA4 => ?_
              have hg9 : wr.heap.size ≤ g9 := HB6.out.2
              have hbg9 : b ≤ g9 := Nat.le_trans (Nat.le_of_lt HR.out.fl.blt) hg9
              have hF := ((Fr.refl (fun j => j = g9) A3).setCell (p := ⟨g9, 1, none⟩) (fun _ => rfl) (.slice ra rn rc)).trans (Fr.ofBelow hA4 (fun j => j = g9))
              have hr9' : RegAt (A3.setCell ⟨g9, 1, none⟩ (.slice ra rn rc)) g9 (J, ra, rn, rc) := (heap_setCell_same A3 g9 1 _ _ (.slice ra rn rc) hr9).trans (by simp [sv])
              have hel : El A4 b (J, ra, rn, rc) (J, zl ++ [zs 1500]) := (El.own (B := b) (k := J) own3).fr hF (fun j hj h => hr9.ro hbg9 (hj ▸ h))
              have hwr4 := (hwr.setCell (p := ⟨g9, 1, none⟩) hg9 (.slice ra rn rc)).trans (hA4.mono (by have := hwr.size; simpa [World.setCell] using this))
              have hact4 := (hF.block gx (Array.getElem?_eq_some_iff.1 hact).1 (by have := H9.out.2.2; omega)).trans hact
              have HE : Hid (∃ (ya : Option Addr) (yn yc : Nat) (yl : List ByteArray), RegAt A4 g9 (J, ya, yn, yc) ∧ El A4 b (J, ya, yn, yc) (J, yl) ∧ tz yl ≤ 4600 ∧ Rel w b r L A4 ∧ A4.heap[gx]? = some (.cells #[.int .u8 (dw : Int), .int .u8 (dn : Int), .int .i64 kd, .slice xa xn xc, .bool true] 35 (0, 0)) ∧ Below wr.heap.size wr A4) :=
                ⟨ra, rn, rc, zl ++ [zs 1500], hr9'.below hA4 (by have := hr9.lt; simpa [World.setCell] using this), hel, by rw [tz_append]; have h1 := HT.out; show tz zl + tz [zs 1500] ≤ 4600; rw [tz_cons, tz_nil, zs_size]; omega, HR.out.below hwr4, hact4, hwr4⟩
              clear FX own3 hF hr9 hr9' hel hwr hwr4 hact hact4 hA3 hA4 m1 z hg9 hbg9
              go_wp2
              go_meet
              case rel => exact ⟨rfl, HE⟩
            · intro u hu
              have FX := FX.trans (Fr.ofBelow hu _)
              have hz := fun V hV => hz V (below_on hu hV)
              clear hu
              refine Vs.fork_make (W' := u.alloc (.cells #[.string (zs 1500)] ES)) (u := .slice (some ⟨u.heap.size, 0, none⟩) 1 1) rfl rfl (by simp only [Vs.opOf_succ, Vs.opOf_zero]; go_simp) ?_
              refine ⟨Fr.ofBelow (one_below _ _) _, ?_⟩
              simp only [Vs.opOf_succ, Vs.opOf_zero, Act.put, List.setIfInBounds_toArray, List.set_cons_zero, List.set_cons_succ]
              have hs1 : Ss (u.alloc (.cells #[.string (zs 1500)] ES)) (some ⟨u.heap.size, 0, none⟩) 1 1 [zs 1500] := SrcV.lit u #[.string (zs 1500)] ES 1 rfl (by simp [Value.oneCell']) (by simp [maxLen])
              obtain ⟨v, hv⟩ : ∃ v, v = u.alloc (.cells #[.string (zs 1500)] ES) := ⟨_, rfl⟩
              have hbv : Below u.heap.size u v := by rw [hv]; exact one_below _ _
              obtain ⟨gs, hgs⟩ : ∃ gs, gs = u.heap.size := ⟨_, rfl⟩
              rw [← hv, ← hgs] at hs1
              rw [← hv, ← hgs]
              clear hv hgs
              have FX := FX.trans (Fr.ofBelow hbv _)
              have hz := fun V hV => hz V (below_on hbv hV)
              clear hbv
              refine Vs.wpTr_path ?_
              refine Vs.wpPath_make rfl fun u hu => ?_
              have FX := FX.trans (Fr.ofBelow hu _)
              have hz := fun V hV => hz V (below_on hu hV)
              have hs1 := SrcV.below hs1 hu
              clear hu
              have hbu := HR6.out.trans (FX.below HR6.out.size (fun j e => Nat.le_trans HR6.out.size e))
              obtain ⟨d1, e1', v, hr1, own1, hg1, _⟩ := run_append_srcv (P := Try.prog) u 31 31 w6.heap.size ES i0 (.string ⟨#[]⟩) 1 16 underS hi0 hz0 hz1 hz2 rfl (by decide) (.slice none 0 0) 0 [] (World.ownsRow_nil _ _ _ _) (.slice xa xn xc) xn _ (SrcV.below HS6.out hbu) (by simp only [maxLen]; omega) (by omega) FX.size
              have hbv : Below u.heap.size u v := (Below.refl _ u).grown hg1 (Nat.le_refl _) (fun k e => by cases e)
              refine ⟨_, v, rfl, by simp only [Vs.opOf_succ, Vs.opOf_zero]; exact exec_append rfl rfl rfl hr1, (Fr.refl _ u).grown hg1 (fun k hk => by cases hk), ?_⟩
              simp only [Vs.opOf_succ, Vs.opOf_zero, Act.put, List.setIfInBounds_toArray, List.set_cons_zero, List.set_cons_succ]
              clear hr1 hg1 hbu
              have FX := FX.trans (Fr.ofBelow hbv _)
              have hz := fun V hV => hz V (below_on hbv hV)
              have hs1 := SrcV.below hs1 hbv
              clear hbv
              refine Vs.wpPath_make rfl fun u2 hu2 => ?_
              have FX := FX.trans (Fr.ofBelow hu2 _)
              have own1 := ownsRow_fr own1 (Fr.ofBelow hu2 (fun _ => False)) (fun _ _ h => h)
              have hs1 := SrcV.below hs1 hu2
              obtain ⟨ra, rc, u3, hr3, own3, hg3, _⟩ := run_append_srcv (P := Try.prog) u2 31 31 w6.heap.size ES i0 (.string ⟨#[]⟩) 1 16 underS hi0 hz0 hz1 hz2 rfl (by decide) (.slice d1 (0 + xn) e1') (0 + xn) _ own1 _ 1 _ hs1 (by simp only [maxLen]; omega) (by omega) FX.size
              refine ⟨_, u3, rfl, by simp only [Vs.opOf_succ, Vs.opOf_zero]; exact exec_append rfl rfl rfl hr3, (Fr.refl _ u2).grown hg3 (fun k hk _ => (own1.lt k hk).1), ?_⟩
              simp only [Vs.opOf_succ, Vs.opOf_zero, Act.put, List.setIfInBounds_toArray, List.set_cons_zero, List.set_cons_succ]
              have FX := FX.grown hg3 (fun k hk _ => (own1.lt k hk).1)
              rw [List.nil_append, ← List.map_append] at own3
              clear hr3 hg3 own1 hs1 hu2 hz
              obtain ⟨rn, hrn⟩ : ∃ rn, rn = 0 + xn + 1 := ⟨_, rfl⟩
              rw [← hrn] at own3
              rw [← hrn]
              clear hrn
              refine Vs.wpPath_free (v := .pointer (some ⟨g9, 1, none⟩)) rfl rfl (fun W => by simp only [Vs.opOf_succ, Vs.opOf_zero]; go_simp) ?_
              simp only [Vs.opOf_succ, Vs.opOf_zero, Act.put, List.setIfInBounds_toArray, List.set_cons_zero, List.set_cons_succ]
              refine Vs.wpPath_store rfl fun A3 hA3 => ?_
              have FX := FX.trans (Fr.ofBelow hA3 _)
              have hr9 := H9.out.1.fr FX (by have := H9.out.1.lt; omega)
              have hact := (FX.block gx (Nat.lt_trans H9.out.2.2 H9.out.1.lt) (by have := H9.out.1.lt; have := H9.out.2.2; omega)).trans H9.out.2.1
              have own3 := ownsRow_fr own3 (Fr.ofBelow hA3 (fun _ => False)) (fun _ _ h => h)
              have hwr : Below wr.heap.size wr A3 := HB6.out.1.trans (FX.below HB6.out.1.size (fun j e => Nat.le_trans HB6.out.1.size e))
              have m1 : A3.cell? ⟨g9, 1, none⟩ = some (.slice xa xn xc) := hr9.c1
              have z := hr9.z
              refine ⟨A3.setCell ⟨g9, 1, none⟩ (.slice ra rn rc), rfl, by simp only [Vs.opOf_succ, Vs.opOf_zero]; go_simp, ?_⟩
              simp only [Vs.opOf_succ, Vs.opOf_zero, Act.put, List.setIfInBounds_toArray, List.set_cons_zero, List.set_cons_succ]
              refine Vs.wpPath_end fun A4 hA4 => ?_
              have hg9 : wr.heap.size ≤ g9 := HB6.out.2
              have hbg9 : b ≤ g9 := Nat.le_trans (Nat.le_of_lt HR.out.fl.blt) hg9
              have hF := ((Fr.refl (fun j => j = g9) A3).setCell (p := ⟨g9, 1, none⟩) (fun _ => rfl) (.slice ra rn rc)).trans (Fr.ofBelow hA4 (fun j => j = g9))
              have hr9' : RegAt (A3.setCell ⟨g9, 1, none⟩ (.slice ra rn rc)) g9 (J, ra, rn, rc) := (heap_setCell_same A3 g9 1 _ _ (.slice ra rn rc) hr9).trans (by simp [sv])
              have hel : El A4 b (J, ra, rn, rc) (J, zl ++ [zs 1500]) := (El.own (B := b) (k := J) own3).fr hF (fun j hj h => hr9.ro hbg9 (hj ▸ h))
              have hwr4 := (hwr.setCell (p := ⟨g9, 1, none⟩) hg9 (.slice ra rn rc)).trans (hA4.mono (by have := hwr.size; simpa [World.setCell] using this))
              have hact4 := (hF.block gx (Array.getElem?_eq_some_iff.1 hact).1 (by have := H9.out.2.2; omega)).trans hact
              have HE : Hid (∃ (ya : Option Addr) (yn yc : Nat) (yl : List ByteArray), RegAt A4 g9 (J, ya, yn, yc) ∧ El A4 b (J, ya, yn, yc) (J, yl) ∧ tz yl ≤ 4600 ∧ Rel w b r L A4 ∧ A4.heap[gx]? = some (.cells #[.int .u8 (dw : Int), .int .u8 (dn : Int), .int .i64 kd, .slice xa xn xc, .bool true] 35 (0, 0)) ∧ Below wr.heap.size wr A4) :=
                ⟨ra, rn, rc, zl ++ [zs 1500], hr9'.below hA4 (by have := hr9.lt; simpa [World.setCell] using this), hel, by rw [tz_append]; have h1 := HT.out; show tz zl + tz [zs 1500] ≤ 4600; rw [tz_cons, tz_nil, zs_size]; omega, HR.out.below hwr4, hact4, hwr4⟩
              clear FX own3 hF hr9 hr9' hel hwr hwr4 hact hact4 hA3 hA4 m1 z hg9 hbg9
              go_wp2
              go_meet
              case rel => exact ⟨rfl, HE⟩
    case rest =>
      obtain ⟨rfl, HC⟩ := hcut
      clear p0 p1
      obtain ⟨ya, yn, yc, yl, c1, c2, c3, c4, c5, c6⟩ := HC.out
      have x0 : wc.cell? ⟨gx, 0, none⟩ = some (.int .u8 (dw : Int)) := (cell_of_row wc _ 0 _ _ _ c5).trans rfl
      have x1 : wc.cell? ⟨gx, 1, none⟩ = some (.int .u8 (dn : Int)) := (cell_of_row wc _ 1 _ _ _ c5).trans rfl
      obtain ⟨wA, hwA⟩ : ∃ wA, wA = wc := ⟨_, rfl⟩
      rw [← hwA] at c1 c2 c4 c5 c6 x0 x1
      rw [← hwA]
      have HY := Lib.hid (And.intro c1 (And.intro c2 (And.intro c3 (And.intro c4 c6))))
      clear hwA c1 c2 c3 c4 c5 c6 HC H9 HB6 HR6 HS6 H5 H0
      have hg9 : wr.heap.size ≤ g9 := by have := HG9.out; omega
      obtain ⟨q10, hq10⟩ : ∃ q, q = dn % 10 := ⟨_, rfl⟩
      have hqlt : q10 < 10 := by omega
      have v10 : (dn : Int) % 10 = (q10 : Int) := by omega
      clear hq10
      go_upto_if 71 with fail
      go_cut [10] from 72 to 73 (fun s10 wx => ∃ c : Nat, c < 256 ∧ s10 = .int .u8 (c : Int) ∧ wA = wx)
      case first =>
        by_cases h200 : 200 ≤ dn
        · have e1 : (200 : Int) ≤ (dn : Int) := by omega
          go_wp2
          go_meet
          case rel => exact ⟨dn, hdn256, rfl, rfl⟩
        · have e1 : ¬ (200 : Int) ≤ (dn : Int) := by omega
          go_wp2
          go_meet
          case rel => exact ⟨_, UInt8.toNat_lt _, rfl, rfl⟩
      case rest =>
        obtain ⟨cc, hcc, rfl, rfl⟩ := hcut
        obtain ⟨q16, hq16⟩ : ∃ q, q = dn % 16 := ⟨_, rfl⟩
        have v16 : (dn : Int) % 16 = (q16 : Int) := by omega
        clear hq16
        go_upto_if 77 with fail
        go_cut [10] from 78 to 78 (fun s10 wx => ∃ c : Nat, c < 256 ∧ s10 = .int .u8 (c : Int) ∧ wA = wx)
        case first =>
          by_cases h15 : q16 = 15
          · have e1 : ((q16 : Int) == 15) = true := by rw [beq_iff_eq]; omega
            go_wp2
            go_meet
            case rel => exact ⟨0, by omega, rfl, rfl⟩
          · have e1 : ((q16 : Int) == 15) = false := by rw [beq_eq_false_iff_ne]; omega
            go_wp2
            go_meet
            case rel => exact ⟨cc, hcc, rfl, rfl⟩
        case rest =>
          obtain ⟨c, hc256, rfl, rfl⟩ := hcut
          clear v16 v10 x1 hcc
          obtain ⟨q4, hq4⟩ : ∃ q, q = dw % 4 := ⟨_, rfl⟩
          have v4 : (dw : Int) % 4 = (q4 : Int) := by omega
          clear hq4
          go_upto_block 2 with fail
          rw [v4]
          have p0 := HY.out.1.c0
          have p1 : wA.cell? ⟨g9, 1, none⟩ = some (.slice ya yn yc) := HY.out.1.c1
          have hgp : ¬ (g9 = b ∨ RBlk wA r g9) := HR.out.no HY.out.2.2.2.2 hg9
          clear x0
          go_cut [11, 12] from 81 to 108 (fun s11 s12 wx => ∃ (E : Int) (L' : ML G), s11 = .int .i64 E ∧ s12 = .int .i64 E ∧ Hid (Rel w b r L' wx))
          case first =>
            by_cases h0 : q4 = 0
            · have e1 : ((q4 : Int) == 0) = true := by rw [beq_iff_eq]; omega
              clear h0
              go_wp2_with fail
              have F_0 := fun (C : World → Prop) (hC : Vs.Grows (fun j => j = b ∨ RBlk wA r j) wA C) (z : Vs.In C) => hC.cell p0 hgp z
              have F_1 := fun (C : World → Prop) (hC : Vs.Grows (fun j => j = b ∨ RBlk wA r j) wA C) (z : Vs.In C) => hC.cell p1 hgp z
              refine Vs.wp_region_seg (S := fun j => j = b ∨ RBlk wA r j) [0, 1, 2, 4, 5, 6] [(3, 1), (7, 1), (8, 2), (9, 2)] (by kernel_rfl) (by kernel_rfl) 148 rfl (by kernel_rfl) ?_
              simp only [List.map_cons, List.map_nil, Vs.opOf_succ, Vs.opOf_zero]
              apply Exists.intro
              refine ⟨fun C hC => ?_, ?_⟩
              · haveI hI := hC.one
                have f_0 := F_0 C hC
                have f_1 := F_1 C hC
                repeat (go_big_quiet_step (fail))
                exact wpQuiet_nil rfl
              clear F_0 F_1
              refine Vs.wpPath_call (f := 14) (args := #[.pointer (some ⟨b + 1, 0, none⟩), .int .u8 (c : Int), .agg #[.int .i64 J, .slice ya yn yc]]) rfl rfl (fun W => by simp only [Vs.opOf_succ, Vs.opOf_zero]; go_simp) ?_
              intro A1 hA1
              refine (yank_any c J ya yn yc (J, yl) b (b + 1) b L A1 (HY.out.2.1.below hA1) (HY.out.2.2.2.1.fl.below hA1) HY.out.2.2.2.1.ok hc256 (show tz yl ≤ 50000 by have := HY.out.2.2.1; omega) (Nat.le_trans (Nat.le_of_lt HY.out.2.2.2.1.fl.blt) hA1.size)).mono ?_
              rintro e A2 ⟨rfl, hf2, hr2⟩
              refine ⟨_, rfl, hr2.mono (fun j _ e => .inl e), ?_⟩
              simp only [Vs.opOf_succ, Vs.opOf_zero, Act.put, List.setIfInBounds_toArray, List.set_cons_zero, List.set_cons_succ]
              have F2 := (Fr.ofBelow hA1 (fun j => j = b)).trans hr2
              refine Vs.wpPath_call (f := 15) (args := #[.pointer (some ⟨r, 0, none⟩), .int .u8 (c : Int), .agg #[.int .i64 J, .slice ya yn yc]]) rfl rfl (fun W => by simp only [Vs.opOf_succ, Vs.opOf_zero]; go_simp) ?_
              intro A3 hA3
              have F3 := F2.trans (Fr.ofBelow hA3 (fun j => j = b))
              have hap := Rfg.apart HY.out.2.2.2.1.rf HY.out.2.2.2.1.fl
              have hrb : ¬ r = b := fun e => hap.2 (.inl e.symm)
              have rf3 := HY.out.2.2.2.1.rf.fr F3 (fun j hj e => hap.2 (e ▸ hj)) HY.out.2.2.2.1.fl.ro
              refine (yank19_any c J ya yn yc (J, yl) b r L A3 (HY.out.2.1.fr F3 HY.out.2.2.2.1.fl.ro) rf3 HY.out.2.2.2.1.ok hc256 (show tz yl ≤ 50000 by have := HY.out.2.2.1; omega) (Nat.le_trans (Nat.le_of_lt HY.out.2.2.2.1.fl.blt) F3.size)).mono ?_
              rintro e A4 ⟨rfl, hf4, hd4⟩
              have heq : A3.heap[r]? = wA.heap[r]? := F3.block r HY.out.2.2.2.1.rf.lt hrb
              refine ⟨_, rfl, hd4.1.mono (fun j _ e => .inr (e.back heq)), ?_⟩
              simp only [Vs.opOf_succ, Vs.opOf_zero, Act.put, List.setIfInBounds_toArray, List.set_cons_zero, List.set_cons_succ]
              refine Vs.wpPath_free (v := .int .i64 (yank L c (J, yl)).1) rfl rfl (fun _ => rfl) ?_
              simp only [Vs.opOf_succ, Vs.opOf_zero, Act.put, List.setIfInBounds_toArray, List.set_cons_zero, List.set_cons_succ]
              refine Vs.wpPath_free (v := .int .i64 (yank L c (J, yl)).1) rfl rfl (fun _ => rfl) ?_
              simp only [Vs.opOf_succ, Vs.opOf_zero, Act.put, List.setIfInBounds_toArray, List.set_cons_zero, List.set_cons_succ]
              refine Vs.wpPath_end fun A5 hA5 => ?_
              have hfl3 := hf2.below hA3
              have hap3 := Rfg.apart rf3 hfl3
              have hbA := HY.out.2.2.2.1.bel.trans (F3.below HY.out.2.2.2.1.bel.size (fun j e => by rw [e]; exact HF2.out.2.2.2))
              have hbA := hbA.trans (hd4.1.below hbA.size (fun j e => by
                obtain ⟨RL, hq, _⟩ := rf3
                exact Nat.le_trans HF2.out.2.2.2 (hq.blk e).1))
              have HE : Hid (Rel w b r (yank L c (J, yl)).2 A5) := ⟨(hfl3.fr hd4.1 hap3.1 hap3.2 rf3.ro).below hA5, hf4.below hA5, ok_yank HY.out.2.2.2.1.ok c (J, yl), hbA.trans (hA5.mono hbA.size)⟩
              clear F2 F3 hap hrb rf3 heq hfl3 hap3 hbA hf2 hf4 hr2 hd4 hA1 hA3 hA5
              go_wp2
              go_meet
              case rel => exact ⟨_, _, rfl, rfl, HE⟩
            have e1 : ((q4 : Int) == 0) = false := by rw [beq_eq_false_iff_ne]; omega
            by_cases h3 : q4 = 3
            · have e2 : ((q4 : Int) == 3) = true := by rw [beq_iff_eq]; omega
              clear h0 h3
              go_wp2_with fail
              have F_0 := fun (C : World → Prop) (hC : Vs.Grows (fun j => j = b ∨ RBlk wA r j) wA C) (z : Vs.In C) => hC.cell p0 hgp z
              have F_1 := fun (C : World → Prop) (hC : Vs.Grows (fun j => j = b ∨ RBlk wA r j) wA C) (z : Vs.In C) => hC.cell p1 hgp z
              refine Vs.wp_region_seg (S := fun j => j = b ∨ RBlk wA r j) [0, 1, 2, 4, 5, 6] [(3, 1), (7, 1), (8, 2), (9, 2)] (by kernel_rfl) (by kernel_rfl) 148 rfl (by kernel_rfl) ?_
              simp only [List.map_cons, List.map_nil, Vs.opOf_succ, Vs.opOf_zero]
              apply Exists.intro
              refine ⟨fun C hC => ?_, ?_⟩
              · haveI hI := hC.one
                have f_0 := F_0 C hC
                have f_1 := F_1 C hC
                repeat (go_big_quiet_step (fail))
                exact wpQuiet_nil rfl
              clear F_0 F_1
              refine Vs.wpPath_call (f := 16) (args := #[.pointer (some ⟨b + 1, 0, none⟩), .int .u8 (c : Int), .agg #[.int .i64 J, .slice ya yn yc]]) rfl rfl (fun W => by simp only [Vs.opOf_succ, Vs.opOf_zero]; go_simp) ?_
              intro A1 hA1
              refine (put_any c J ya yn yc (J, yl) b (b + 1) b L A1 (HY.out.2.1.below hA1) (HY.out.2.2.2.1.fl.below hA1) HY.out.2.2.2.1.ok hc256 (show tz yl ≤ 50000 by have := HY.out.2.2.1; omega) (Nat.le_trans (Nat.le_of_lt HY.out.2.2.2.1.fl.blt) hA1.size)).mono ?_
              rintro e A2 ⟨rfl, hf2, hr2⟩
              refine ⟨_, rfl, hr2.mono (fun j _ e => .inl e), ?_⟩
              simp only [Vs.opOf_succ, Vs.opOf_zero, Act.put, List.setIfInBounds_toArray, List.set_cons_zero, List.set_cons_succ]
              have F2 := (Fr.ofBelow hA1 (fun j => j = b)).trans hr2
              refine Vs.wpPath_call (f := 17) (args := #[.pointer (some ⟨r, 0, none⟩), .int .u8 (c : Int), .agg #[.int .i64 J, .slice ya yn yc]]) rfl rfl (fun W => by simp only [Vs.opOf_succ, Vs.opOf_zero]; go_simp) ?_
              intro A3 hA3
              have F3 := F2.trans (Fr.ofBelow hA3 (fun j => j = b))
              have hap := Rfg.apart HY.out.2.2.2.1.rf HY.out.2.2.2.1.fl
              have hrb : ¬ r = b := fun e => hap.2 (.inl e.symm)
              have rf3 := HY.out.2.2.2.1.rf.fr F3 (fun j hj e => hap.2 (e ▸ hj)) HY.out.2.2.2.1.fl.ro
              refine (put19_any c J ya yn yc (J, yl) b r L A3 (HY.out.2.1.fr F3 HY.out.2.2.2.1.fl.ro) rf3 HY.out.2.2.2.1.ok hc256 (show tz yl ≤ 50000 by have := HY.out.2.2.1; omega) (Nat.le_trans (Nat.le_of_lt HY.out.2.2.2.1.fl.blt) F3.size)).mono ?_
              rintro e A4 ⟨rfl, hf4, hd4⟩
              have heq : A3.heap[r]? = wA.heap[r]? := F3.block r HY.out.2.2.2.1.rf.lt hrb
              refine ⟨_, rfl, hd4.1.mono (fun j _ e => .inr (e.back heq)), ?_⟩
              simp only [Vs.opOf_succ, Vs.opOf_zero, Act.put, List.setIfInBounds_toArray, List.set_cons_zero, List.set_cons_succ]
              refine Vs.wpPath_free (v := .int .i64 (put L c (J, yl)).1) rfl rfl (fun _ => rfl) ?_
              simp only [Vs.opOf_succ, Vs.opOf_zero, Act.put, List.setIfInBounds_toArray, List.set_cons_zero, List.set_cons_succ]
              refine Vs.wpPath_free (v := .int .i64 (put L c (J, yl)).1) rfl rfl (fun _ => rfl) ?_
              simp only [Vs.opOf_succ, Vs.opOf_zero, Act.put, List.setIfInBounds_toArray, List.set_cons_zero, List.set_cons_succ]
              refine Vs.wpPath_end fun A5 hA5 => ?_
              have hfl3 := hf2.below hA3
              have hap3 := Rfg.apart rf3 hfl3
              have hbA := HY.out.2.2.2.1.bel.trans (F3.below HY.out.2.2.2.1.bel.size (fun j e => by rw [e]; exact HF2.out.2.2.2))
              have hbA := hbA.trans (hd4.1.below hbA.size (fun j e => by
                obtain ⟨RL, hq, _⟩ := rf3
                exact Nat.le_trans HF2.out.2.2.2 (hq.blk e).1))
              have HE : Hid (Rel w b r (put L c (J, yl)).2 A5) := ⟨(hfl3.fr hd4.1 hap3.1 hap3.2 rf3.ro).below hA5, hf4.below hA5, ok_put HY.out.2.2.2.1.ok c (J, yl), hbA.trans (hA5.mono hbA.size)⟩
              clear F2 F3 hap hrb rf3 heq hfl3 hap3 hbA hf2 hf4 hr2 hd4 hA1 hA3 hA5
              go_wp2
              go_meet
              case rel => exact ⟨_, _, rfl, rfl, HE⟩
            · have e2 : ((q4 : Int) == 3) = false := by rw [beq_eq_false_iff_ne]; omega
              clear h0 h3
              go_wp2_with fail
              have F_0 := fun (C : World → Prop) (hC : Vs.Grows (fun j => j = b ∨ RBlk wA r j) wA C) (z : Vs.In C) => hC.cell p0 hgp z
              have F_1 := fun (C : World → Prop) (hC : Vs.Grows (fun j => j = b ∨ RBlk wA r j) wA C) (z : Vs.In C) => hC.cell p1 hgp z
              refine Vs.wp_region_seg (S := fun j => j = b ∨ RBlk wA r j) [0, 1, 2, 4, 5, 6] [(3, 1), (7, 1), (8, 2), (9, 2)] (by kernel_rfl) (by kernel_rfl) 148 rfl (by kernel_rfl) ?_
              simp only [List.map_cons, List.map_nil, Vs.opOf_succ, Vs.opOf_zero]
              apply Exists.intro
              refine ⟨fun C hC => ?_, ?_⟩
              · haveI hI := hC.one
                have f_0 := F_0 C hC
                have f_1 := F_1 C hC
                repeat (go_big_quiet_step (fail))
                exact wpQuiet_nil rfl
              clear F_0 F_1
              refine Vs.wpPath_call (f := 18) (args := #[.pointer (some ⟨b + 1, 0, none⟩), .int .u8 (c : Int), .agg #[.int .i64 J, .slice ya yn yc]]) rfl rfl (fun W => by simp only [Vs.opOf_succ, Vs.opOf_zero]; go_simp) ?_
              intro A1 hA1
              refine (cut_any c J ya yn yc (J, yl) b (b + 1) b L A1 (HY.out.2.1.below hA1) (HY.out.2.2.2.1.fl.below hA1) HY.out.2.2.2.1.ok hc256 (show tz yl ≤ 50000 by have := HY.out.2.2.1; omega) (Nat.le_trans (Nat.le_of_lt HY.out.2.2.2.1.fl.blt) hA1.size)).mono ?_
              rintro e A2 ⟨rfl, hf2, hr2⟩
              refine ⟨_, rfl, hr2.mono (fun j _ e => .inl e), ?_⟩
              simp only [Vs.opOf_succ, Vs.opOf_zero, Act.put, List.setIfInBounds_toArray, List.set_cons_zero, List.set_cons_succ]
              have F2 := (Fr.ofBelow hA1 (fun j => j = b)).trans hr2
              refine Vs.wpPath_call (f := 19) (args := #[.pointer (some ⟨r, 0, none⟩), .int .u8 (c : Int), .agg #[.int .i64 J, .slice ya yn yc]]) rfl rfl (fun W => by simp only [Vs.opOf_succ, Vs.opOf_zero]; go_simp) ?_
              intro A3 hA3
              have F3 := F2.trans (Fr.ofBelow hA3 (fun j => j = b))
              have hap := Rfg.apart HY.out.2.2.2.1.rf HY.out.2.2.2.1.fl
              have hrb : ¬ r = b := fun e => hap.2 (.inl e.symm)
              have rf3 := HY.out.2.2.2.1.rf.fr F3 (fun j hj e => hap.2 (e ▸ hj)) HY.out.2.2.2.1.fl.ro
              refine (cut19_any c J ya yn yc (J, yl) b r L A3 (HY.out.2.1.fr F3 HY.out.2.2.2.1.fl.ro) rf3 HY.out.2.2.2.1.ok hc256 (show tz yl ≤ 50000 by have := HY.out.2.2.1; omega) (Nat.le_trans (Nat.le_of_lt HY.out.2.2.2.1.fl.blt) F3.size)).mono ?_
              rintro e A4 ⟨rfl, hf4, hd4⟩
              have heq : A3.heap[r]? = wA.heap[r]? := F3.block r HY.out.2.2.2.1.rf.lt hrb
              refine ⟨_, rfl, hd4.1.mono (fun j _ e => .inr (e.back heq)), ?_⟩
              simp only [Vs.opOf_succ, Vs.opOf_zero, Act.put, List.setIfInBounds_toArray, List.set_cons_zero, List.set_cons_succ]
              refine Vs.wpPath_free (v := .int .i64 (cut L c (J, yl)).1) rfl rfl (fun _ => rfl) ?_
              simp only [Vs.opOf_succ, Vs.opOf_zero, Act.put, List.setIfInBounds_toArray, List.set_cons_zero, List.set_cons_succ]
              refine Vs.wpPath_free (v := .int .i64 (cut L c (J, yl)).1) rfl rfl (fun _ => rfl) ?_
              simp only [Vs.opOf_succ, Vs.opOf_zero, Act.put, List.setIfInBounds_toArray, List.set_cons_zero, List.set_cons_succ]
              refine Vs.wpPath_end fun A5 hA5 => ?_
              have hfl3 := hf2.below hA3
              have hap3 := Rfg.apart rf3 hfl3
              have hbA := HY.out.2.2.2.1.bel.trans (F3.below HY.out.2.2.2.1.bel.size (fun j e => by rw [e]; exact HF2.out.2.2.2))
              have hbA := hbA.trans (hd4.1.below hbA.size (fun j e => by
                obtain ⟨RL, hq, _⟩ := rf3
                exact Nat.le_trans HF2.out.2.2.2 (hq.blk e).1))
              have HE : Hid (Rel w b r (cut L c (J, yl)).2 A5) := ⟨(hfl3.fr hd4.1 hap3.1 hap3.2 rf3.ro).below hA5, hf4.below hA5, ok_cut HY.out.2.2.2.1.ok c (J, yl), hbA.trans (hA5.mono hbA.size)⟩
              clear F2 F3 hap hrb rf3 heq hfl3 hap3 hbA hf2 hf4 hr2 hd4 hA1 hA3 hA5
              go_wp2
              go_meet
              case rel => exact ⟨_, _, rfl, rfl, HE⟩
          case rest =>
            obtain ⟨E, L', rfl, rfl, HW1⟩ := hcut
            have hsame := same_any b (b + 1) b r L' wc HW1.out.fl HW1.out.rf HW1.out.ok (Nat.le_of_lt HW1.out.fl.blt)
            have hEE : (E != E) = false := by simp
            clear p0 p1 hgp v4
            go_wp2_with fail
            refine hsame.mono ?_
            rintro e v1 ⟨rfl, hv1⟩
            have HW2 := Lib.hid (HW1.out.below hv1)
            clear hsame hv1 hEE
            go_wp2
            obtain ⟨v2, hv2⟩ : ∃ v2, v2 = v1.alloc (.cells #[.int .u8 (c : Int), .int .u8 (d : Int), .int .u8 0, .int .u8 65] 5) := ⟨_, rfl⟩
            have hb2 : Below v1.heap.size v1 v2 := by rw [hv2]; exact one_below _ _
            have hrow : v2.heap[v1.heap.size]? = some (.cells #[.int .u8 (c : Int), .int .u8 (d : Int), .int .u8 0, .int .u8 65] 5 (0, 0)) := by rw [hv2]; exact heap_alloc_new v1 _
            rw [← hv2]
            obtain ⟨g8, hg8⟩ : ∃ g8, g8 = v1.heap.size := ⟨_, rfl⟩
            rw [← hg8] at hrow
            rw [← hg8]
            have HX8 : Hid (∀ j, j < 4 → ∃ e : Nat, e < 256 ∧ v2.cell? ⟨g8, j, none⟩ = some (.int .u8 (e : Int))) := fun j hj => by
              obtain rfl | rfl | rfl | rfl : j = 0 ∨ j = 1 ∨ j = 2 ∨ j = 3 := by omega
              · exact ⟨c, hc256, (cell_of_row v2 _ 0 _ _ _ hrow).trans rfl⟩
              · exact ⟨d, hd256, (cell_of_row v2 _ 1 _ _ _ hrow).trans rfl⟩
              · exact ⟨0, by omega, (cell_of_row v2 _ 2 _ _ _ hrow).trans rfl⟩
              · exact ⟨65, by omega, (cell_of_row v2 _ 3 _ _ _ hrow).trans rfl⟩
            have HW := Lib.hid (HW2.out.below hb2)
            clear hv2 hb2 hrow hg8
            go_loopw [122] (fun i wq => ∃ j : Nat, j ≤ 4 ∧ i = .int .i64 j ∧ Hid (Below v2.heap.size v2 wq)) (fun i _ => 4 - (RowKit.intOf i).toNat)
            case atStart => exact ⟨0, by omega, rfl, Below.refl _ _⟩
            case round =>
              obtain ⟨j, hj4, rfl, D⟩ := hrel
              by_cases hj : j < 4
              · obtain ⟨e, he256, hce⟩ := HX8.out j hj
                have hce := cell_later D.out hce
                have hg1 := fun W (hW : Below v2.heap.size v2 W) => get_any e b (b + 1) b L' W (HW.out.fl.below hW) HW.out.ok he256 (Nat.le_of_lt (HW.out.fl.below hW).blt)
                have hg2 := fun W (hW : Below v2.heap.size v2 W) => get19_any e b r L' W (HW.out.rf.below hW) HW.out.ok he256
                obtain ⟨X, hX⟩ : ∃ X, X = gz (lk L' (reg e)) := ⟨_, rfl⟩
                obtain ⟨Q, hQ⟩ : ∃ Q, Q = (lk L' (reg e)).isSome := ⟨_, rfl⟩
                rw [← hX, ← hQ] at hg1 hg2
                have hQQ : (Q != Q) = false := by simp
                clear hX hQ
                go_wp2_with fail
                refine (hg1 _ D.out).mono ?_
                rintro e v1 ⟨⟨k1, a1, n1', c1⟩, rfl, he1, hb1⟩
                simp only [rv, sv]
                go_upto_region 34 with fail
                obtain ⟨v1', hv1⟩ : ∃ v1', v1' = v1.alloc (.cells #[.int .i64 k1, .slice a1 n1' c1] 33) := ⟨_, rfl⟩
                have hb1' : Below v1.heap.size v1 v1' := by rw [hv1]; exact one_below _ _
                have hr1 : RegAt v1' v1.heap.size (k1, a1, n1', c1) := by rw [hv1]; exact RegAt.new v1 (k1, a1, n1', c1)
                obtain ⟨u1, hu1⟩ : ∃ u1, u1 = v1.heap.size := ⟨_, rfl⟩
                rw [← hu1] at hr1
                rw [← hv1, ← hu1]
                have G1 := Lib.hid (And.intro (below_on hb1 hb1') (And.intro hr1 (he1.below hb1')))
                clear hv1 hb1' hr1 hu1 he1 hb1
                have D1 := Lib.hid (below_on D.out G1.out.1)
                clear hg1 hce
                go_wp2_with fail
                refine (hg2 _ D1.out).mono ?_
                rintro e v2 ⟨⟨k2, a2, n2', c2⟩, rfl, he2, hb2⟩
                simp only [rv, sv]
                go_upto_region 35 with fail
                obtain ⟨v2', hv2⟩ : ∃ v2', v2' = v2.alloc (.cells #[.int .i64 k2, .slice a2 n2' c2] 33) := ⟨_, rfl⟩
                have hb2' : Below v2.heap.size v2 v2' := by rw [hv2]; exact one_below _ _
                have hr2 : RegAt v2' v2.heap.size (k2, a2, n2', c2) := by rw [hv2]; exact RegAt.new v2 (k2, a2, n2', c2)
                obtain ⟨u2, hu2⟩ : ∃ u2, u2 = v2.heap.size := ⟨_, rfl⟩
                rw [← hu2] at hr2
                rw [← hv2, ← hu2]
                have G2 := Lib.hid (And.intro (below_on hb2 hb2') (And.intro hr2 (he2.below hb2')))
                clear hv2 hb2' hr2 hu2 he2 hb2
                clear hg2
                have p0 := (G1.out.2.1.below G2.out.1 G1.out.2.1.lt).c0
                have p1 : v2'.cell? ⟨u1, 1, none⟩ = some (.slice a1 n1' c1) := (G1.out.2.1.below G2.out.1 G1.out.2.1.lt).c1
                have q0 := G2.out.2.1.c0
                have q1 : v2'.cell? ⟨u2, 1, none⟩ = some (.slice a2 n2' c2) := G2.out.2.1.c1
                go_wp2_with fail
                refine (reg_true (G1.out.2.2.below G2.out.1) G2.out.2.2).mono ?_
                rintro e5 v5 ⟨rfl, hb5⟩
                have D4 := Lib.hid (below_on D1.out (below_on G2.out.1 hb5))
                clear p0 p1 q0 q1 hb5 hQQ
                go_wp2
                go_roundw
                case rel => exact ⟨j + 1, by omega, by go_num, D4⟩
                case measure => simp [RowKit.intOf]; omega
              · obtain rfl : j = 4 := by omega
                have HE := Lib.hid (HW.out.below D.out)
                go_wp2
                go_roundw
                case rel => exact ⟨k + 1, L', by omega, by go_num, HE⟩
                case measure => simp [RowKit.intOf]; omega
end Go.Proofs.Ytgfajagajiofnaa.RPl
