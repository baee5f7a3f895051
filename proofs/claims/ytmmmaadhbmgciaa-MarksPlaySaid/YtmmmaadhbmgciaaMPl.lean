/-
  The law MarksPlay, walked.
-/
import Derived.Test.YtmmmaadhbmgciaaMv
import Derived.Test.YtmmmaadhbmgciaaQf
import Derived.Test.YtmmmaadhbmgciaaMActs
import Derived.Deep.CutRange
import Derived.Deep.CutBlock
set_option linter.unusedVariables false
set_option linter.unusedSimpArgs false
set_option maxRecDepth 100000
namespace Go.Proofs.Ytmmmaadhbmgciaa.MPl
open Go Go.RowKit Go.Proofs.Ytmmmaadhbmgciaa.Vk Go.Proofs.Ytmmmaadhbmgciaa.Str Go.Proofs.Ytmmmaadhbmgciaa.Ln Go.Proofs.Ytmmmaadhbmgciaa.Cl Go.Proofs.Ytmmmaadhbmgciaa.Ml Go.Proofs.Ytmmmaadhbmgciaa.Mk Go.Proofs.Ytmmmaadhbmgciaa.MActs
attribute [local go_sem] Oper.semAt_some

theorem cell_one {w : World} {p : Addr} {v : Value} (h : w.cell? p = some v) (O : Obj) : (w.alloc O).cell? p = some v :=
  cell_later ((Below.refl _ w).alloc (Nat.le_refl _) O) h
theorem u8_of {l : Int} (h : (Lit.int .u8 l).wf = true) : 0 ≤ l ∧ l ≤ 255 := by simpa [Lit.wf, show IntKind.u8.min = 0 from rfl, show IntKind.u8.max = 255 from rfl] using h
/-- What stands in a round. -/
def Rel (w : World) (b r k : Nat) (L : ML) (W : World) : Prop := Bo w (b + 1) b r L L W ∧ Srt L ∧ Rng L ∧ Bnd (60 + 8 * (k : Int)) L
theorem bnd_mono {L : ML} {M N : Int} (h : Bnd M L) (hn : M ≤ N) : Bnd N L := fun x hx => by have := h x hx; omega
theorem shf_bnd {z a o n l : Int} {M : Int} (h : shf z a o n = some l) (hz : -M ≤ z ∧ z ≤ M) (hn : -8 < o ∧ o < 8 ∧ -8 < n ∧ n < 8) : -(M + 8) ≤ l ∧ l ≤ M + 8 := by
  unfold shf at h
  split at h
  · cases h; omega
  · split at h
    · split at h
      · cases h; omega
      · cases h
    · cases h; omega
theorem adj_bnd {L : ML} {M a o n : Int} (h : Bnd M L) (hn : -8 < o ∧ o < 8 ∧ -8 < n ∧ n < 8) : Bnd (M + 8) (adj L a o n) := fun y hy => by
  obtain ⟨x, hx, hxy⟩ := mem_adj hy
  unfold one at hxy
  cases hs : shf x.2.1 a o n with
  | none => rw [hs] at hxy; cases hxy
  | some l =>
    rw [hs] at hxy
    simp only [Option.map_some, Option.some.injEq] at hxy
    rw [← hxy]
    exact shf_bnd hs (h x hx) hn
theorem set_bnd {L : ML} {M x y : Int} {c : Nat} (h : Bnd M L) (hx : -M ≤ x ∧ x ≤ M) : Bnd M (setL L c (x, y)) := fun z hz => by
  unfold setL at hz
  split at hz
  · rcases mem_ins hz with rfl | hz
    · exact hx
    · exact h z hz
  · exact h z hz

set_option maxHeartbeats 4000000 in
theorem walk (sa : Option Addr) (N cp : Nat) (ls : List ActD) (nm : Int) (w : World) (hm : Script w sa N cp ls) (wn : (Lit.int .u8 nm).wf = true) :
    Calls Try.prog 4 #[.slice sa N cp, .int .u8 nm] w fun e w' => e = .returned (.bool true) ∧ Below w.heap.size w w' := by
  have hk := known_any w
  have hnm := u8_of wn
  obtain ⟨d, hd⟩ : ∃ d, d = nm.toNat := ⟨_, rfl⟩
  obtain rfl : nm = (d : Int) := by omega
  have hd256 : d < 256 := by omega
  have HMS := Lib.hid hm
  have hN63 : N ≤ 9223372036854775807 := Nat.le_trans hm.1 hm.2.1
  clear hnm hd wn hm
  go_enter Try.func4, Try.ntmps4
  go_wp2_with fail
  refine hk.mono ?_
  rintro e w1 ⟨rfl, hb1⟩
  have HB := Lib.hid hb1
  clear hk hb1
  by_cases h50 : 50 < N
  · go_wp2
    go_ret
    exact ⟨rfl, HB.out⟩
  go_wp2_with fail
  refine (new_any _).mono ?_
  rintro e w2 ⟨rfl, hm2, hb2⟩
  have HB2 := Lib.hid (And.intro (below_on HB.out hb2) hb2.size)
  have HM2 := Lib.hid hm2
  clear hb2 hm2
  obtain ⟨b, hbq⟩ : ∃ b, b = w1.heap.size := ⟨_, rfl⟩
  rw [← hbq] at HM2 ⊢
  have HBQ := Lib.hid (And.intro hbq HB.out.size)
  clear hbq
  go_wp2_with fail
  obtain ⟨w3, hw3⟩ : ∃ w3, w3 = w2.alloc (.cells #[.slice none 0 0, .slice none 0 0] RT) := ⟨_, rfl⟩
  have hb3 : Below w2.heap.size w2 w3 := by rw [hw3]; exact (Below.refl _ _).alloc (Nat.le_refl _) _
  have hrf : Rfs w3 w2.heap.size w2.heap.size [] := by rw [hw3]; exact Rfs.new w2
  show Code.wp _ _ _ _ (w2.alloc (.cells #[.slice none 0 0, .slice none 0 0] RT))
  rw [← hw3]
  have HBO : Hid (Bo w (b + 1) b w2.heap.size [] [] w3) := ⟨HM2.out.below hb3, hrf.mono HB2.out.1.size, below_on HB2.out.1 hb3, by have := HBQ.out.1; have := HBQ.out.2; omega⟩
  obtain ⟨r, hrq⟩ : ∃ r, r = w2.heap.size := ⟨_, rfl⟩
  rw [← hrq] at HBO ⊢
  clear hw3 hb3 hrf hrq
  go_loopw [7] (fun i wr => ∃ (k : Nat) (L : ML), k ≤ N ∧ i = .int .i64 k ∧ Hid (Rel w b r k L wr)) (fun i _ => N - (RowKit.intOf i).toNat)
  case atStart => exact ⟨0, [], Nat.zero_le _, rfl, HBO.out, List.Pairwise.nil, (fun _ h => by cases h), (fun _ h => by cases h)⟩
  case round =>
    obtain ⟨k, L, hkN, rfl, HW⟩ := hrel
    by_cases hk : k < N
    rotate_left
    · obtain rfl : k = N := by omega
      go_wp2
      go_ret
      exact ⟨rfl, HW.out.1.bel⟩
    have hkl : k < ls.length := by have := HMS.out.2.2.1; omega
    obtain ⟨hfit, sb, so, hsa, hcs⟩ := HMS.out.2.2.2 k _ (List.getElem?_eq_getElem hkl)
    subst hsa
    have hcap := HMS.out.1
    generalize ls[k] = x at hfit hcs
    obtain ⟨what, nme, l, y, a, o, n⟩ := x
    have hF := Fr.ofBelow HW.out.1.bel (fun _ => False)
    have f0 : wr.cell? ⟨sb, so + k * 7, none⟩ = some (.int .u8 what) := hF.cell (hcs 0 _ rfl) (by simp)
    have f1 : wr.cell? ⟨sb, so + k * 7 + 1, none⟩ = some (.int .u8 nme) := hF.cell (hcs 1 _ rfl) (by simp)
    have f2 : wr.cell? ⟨sb, so + k * 7 + 2, none⟩ = some (.int .i64 l) := hF.cell (hcs 2 _ rfl) (by simp)
    have f3 : wr.cell? ⟨sb, so + k * 7 + 3, none⟩ = some (.int .i64 y) := hF.cell (hcs 3 _ rfl) (by simp)
    have f4 : wr.cell? ⟨sb, so + k * 7 + 4, none⟩ = some (.int .i64 a) := hF.cell (hcs 4 _ rfl) (by simp)
    have f5 : wr.cell? ⟨sb, so + k * 7 + 5, none⟩ = some (.int .i64 o) := hF.cell (hcs 5 _ rfl) (by simp)
    have f6 : wr.cell? ⟨sb, so + k * 7 + 6, none⟩ = some (.int .i64 n) := hF.cell (hcs 6 _ rfl) (by simp)
    have HFIT : Hid ((0 ≤ what ∧ what ≤ 255) ∧ (0 ≤ nme ∧ nme ≤ 255)) := ⟨u8_of hfit.1, u8_of hfit.2⟩
    clear hfit hcs hF
    go_upto_if 39 with fail
    obtain ⟨w0, hw0⟩ : ∃ w0, w0 = wr.alloc (.cells #[.int .u8 what, .int .u8 nme, .int .i64 l, .int .i64 y, .int .i64 a, .int .i64 o, .int .i64 n] 39) := ⟨_, rfl⟩
    have hb0 : Below wr.heap.size wr w0 := by rw [hw0]; exact (Below.refl _ _).alloc (Nat.le_refl _) _
    have hrow : w0.heap[wr.heap.size]? = some (.cells #[.int .u8 what, .int .u8 nme, .int .i64 l, .int .i64 y, .int .i64 a, .int .i64 o, .int .i64 n] 39 (0, 0)) := by rw [hw0]; exact heap_alloc_new wr _
    rw [← hw0]
    obtain ⟨gx, hgx⟩ : ∃ gx, gx = wr.heap.size := ⟨_, rfl⟩
    rw [← hgx] at hrow ⊢
    have HX := Lib.hid (And.intro hrow hgx)
    have HBR := Lib.hid HW.out.1.ms.blt
    have HW0 : Hid (Rel w b r k L w0) := ⟨HW.out.1.below hb0, HW.out.2⟩
    have HSZ := Lib.hid hb0.size
    clear hw0 hb0 hrow hgx f0 f1 f2 f3 f4 f5 f6 HW
    go_cut [9] from 40 to 42 (fun s9 wx => ∃ c : Nat, c < 256 ∧ s9 = .int .u8 (c : Int) ∧ w0 = wx)
    case first =>
      have hn1 := HFIT.out.2.1
      have hn2 := HFIT.out.2.2
      have t1 := Int.tmod_lt_of_pos nme (b := 27) (by omega)
      have t2 := Int.tmod_nonneg 27 hn1
      by_cases hq : 0 < nme.tmod 4
      · have v1 : IntKind.u8.wrap (96 + nme.tmod 27) = 96 + nme.tmod 27 := by rw [IntKind.wrap_u8]; omega
        have HT := Lib.hid (And.intro t1 t2)
        clear t1 t2 hn1 hn2
        go_wp2
        go_meet
        case rel => exact ⟨(96 + nme.tmod 27).toNat, by have := HT.out; omega, by rw [Int.toNat_of_nonneg (by have := HT.out; omega)], rfl⟩
      · clear t1 t2
        have HN := Lib.hid (And.intro hn1 hn2)
        clear hn1 hn2
        go_wp2
        go_meet
        case rel => exact ⟨nme.toNat, by have := HN.out; omega, by rw [Int.toNat_of_nonneg HN.out.1], rfl⟩
    case rest =>
      obtain ⟨c, hc256, rfl, rfl⟩ := hcut
      have x0 : w0.cell? ⟨gx, 0, none⟩ = some (.int .u8 what) := (cell_of_row w0 _ 0 _ _ _ HX.out.1).trans rfl
      have x2 : w0.cell? ⟨gx, 2, none⟩ = some (.int .i64 l) := (cell_of_row w0 _ 2 _ _ _ HX.out.1).trans rfl
      have x3 : w0.cell? ⟨gx, 3, none⟩ = some (.int .i64 y) := (cell_of_row w0 _ 3 _ _ _ HX.out.1).trans rfl
      have x4 : w0.cell? ⟨gx, 4, none⟩ = some (.int .i64 a) := (cell_of_row w0 _ 4 _ _ _ HX.out.1).trans rfl
      have x5 : w0.cell? ⟨gx, 5, none⟩ = some (.int .i64 o) := (cell_of_row w0 _ 5 _ _ _ HX.out.1).trans rfl
      have x6 : w0.cell? ⟨gx, 6, none⟩ = some (.int .i64 n) := (cell_of_row w0 _ 6 _ _ _ HX.out.1).trans rfl
      have HX0 := Lib.hid (And.intro x0 (And.intro x2 (And.intro x3 (And.intro x4 (And.intro x5 x6)))))
      have z0 := cell_one x0 (.cells #[.int .i64 (l.tmod 60), .int .i64 y] 37)
      clear x0 x4 x5 x6
      go_upto_if 54 with fail
      obtain ⟨w5, hw5⟩ : ∃ w5, w5 = w0.alloc (.cells #[.int .i64 (l.tmod 60), .int .i64 y] 37) := ⟨_, rfl⟩
      have hb5 : Below w0.heap.size w0 w5 := by rw [hw5]; exact (Below.refl _ _).alloc (Nat.le_refl _) _
      have hp5 : PosAt w5 w0.heap.size (l.tmod 60) y := by rw [hw5]; exact PosAt.new w0 (l.tmod 60) y
      have HW5 : Hid (Rel w b r k L w5) := ⟨HW0.out.1.below hb5, HW0.out.2⟩
      rw [← hw5]
      have HX5 := Lib.hid (And.intro (cell_later hb5 HX0.out.2.2.2.1) (And.intro (cell_later hb5 HX0.out.2.2.2.2.1) (cell_later hb5 HX0.out.2.2.2.2.2)))
      have hgb : ¬ gx = b := by have h1 := HX.out.2; have h2 := HBR.out; omega
      have hgp : ¬ (w0.heap.size = b ∨ RBlk w5 r w0.heap.size) := fun hh => by
        rcases hh with hh | hh
        · have := HW0.out.1.ms.blt; omega
        · have := RBlk.lt HW0.out.1.rf (RBlk.back hh (hb5.block r HW0.out.1.rf.lt)); omega
      obtain ⟨gp, hgpq⟩ : ∃ gp, gp = w0.heap.size := ⟨_, rfl⟩
      rw [← hgpq] at hp5 hgp ⊢
      have HP5 := Lib.hid (And.intro hp5 hgp)
      have HGB := Lib.hid hgb
      clear hw5 hb5 hp5 hgpq hgp hgb z0 x2 x3
      go_cut [9] from 55 to 85 (fun s9 wx => ∃ L' : ML, s9 = .int .u8 (c : Int) ∧ Hid (Rel w b r (k + 1) L' wx))
      case first =>
        by_cases hwh : what.tmod 3 < 2
        · obtain ⟨X, hX⟩ : ∃ X, X = l.tmod 60 := ⟨_, rfl⟩
          have t1 := Int.tmod_lt_of_pos l (b := 60) (by omega)
          have t2 := Int.lt_tmod_of_pos l (b := 60) (by omega)
          rw [← hX] at HP5 t1 t2
          have HXB := Lib.hid (And.intro t1 t2)
          clear hX t1 t2
          obtain ⟨q, hq⟩ : ∃ q, q = nam c := ⟨_, rfl⟩
          have hs1 := fun W (h : Bo w (b + 1) b r L L W) => h.set hc256 HW5.out.2.1 HW5.out.2.2.1 X y
          have hs2 := fun W (h : Bo w (b + 1) b r (setL L c (X, y)) L W) => h.set13 (c := c) (length_rng HW5.out.2.1 HW5.out.2.2.1) X y
          rw [← hq] at hs1 hs2
          clear hq
          go_wp2_with fail
          have F_0 := fun (C : World → Prop) (hC : Vs.Grows (fun j => j = b ∨ RBlk w5 r j) w5 C) (z : Vs.In C) => hC.cell HP5.out.1.c0 HP5.out.2 z
          have F_1 := fun (C : World → Prop) (hC : Vs.Grows (fun j => j = b ∨ RBlk w5 r j) w5 C) (z : Vs.In C) => hC.cell HP5.out.1.c1 HP5.out.2 z
          refine Vs.wp_region_seg (S := fun j => j = b ∨ RBlk w5 r j) [0, 1, 2, 4, 5, 6] [(3, 1), (7, 1), (8, 2)] (by kernel_rfl) (by kernel_rfl) 124 rfl (by kernel_rfl) ?_
          simp only [List.map_cons, List.map_nil, Vs.opOf_succ, Vs.opOf_zero]
          apply Exists.intro
          refine ⟨fun C hC => ?_, ?_⟩
          · haveI hI := hC.one
            have f_0 := F_0 C hC
            have f_1 := F_1 C hC
            repeat (go_big_quiet_step (fail))
            exact wpQuiet_nil rfl
          clear F_0 F_1
          refine Vs.wpPath_call (f := 12) (args := #[.pointer (some ⟨b + 1, 0, none⟩), .int .u8 (c : Int), .agg #[.int .i64 X, .int .i64 y]]) rfl rfl (fun W => by simp only [Vs.opOf_succ, Vs.opOf_zero]; go_simp) ?_
          intro A1 hA1
          refine (hs1 _ (HW5.out.1.below hA1)).mono ?_
          rintro e A2 ⟨rfl, hbo2, hf2⟩
          refine ⟨_, rfl, hf2.mono (fun j _ e => .inl e), ?_⟩
          simp only [Vs.opOf_succ, Vs.opOf_zero, Act.put, List.setIfInBounds_toArray, List.set_cons_zero, List.set_cons_succ]
          clear hs1
          refine Vs.wpPath_call (f := 13) (args := #[.pointer (some ⟨r, 0, none⟩), .int .u8 (c : Int), .agg #[.int .i64 X, .int .i64 y]]) rfl rfl (fun W => by simp only [Vs.opOf_succ, Vs.opOf_zero]; go_simp) ?_
          intro A3 hA3
          refine (hs2 _ (hbo2.below hA3)).mono ?_
          rintro e A4 ⟨rfl, hbo4, hf4⟩
          have heq : A3.heap[r]? = w5.heap[r]? := by
            have h5 := HW5.out.1.below hA1
            exact (hA3.block r hbo2.rf.lt).trans ((hf2.block r h5.rf.lt (fun e => (apart h5.rf h5.ms).2 (.inl e.symm))).trans (hA1.block r HW5.out.1.rf.lt))
          refine ⟨_, rfl, hf4.mono (fun j _ e => .inr (RBlk.back e heq)), ?_⟩
          simp only [Vs.opOf_succ, Vs.opOf_zero, Act.put, List.setIfInBounds_toArray, List.set_cons_zero, List.set_cons_succ]
          clear hs2 heq
          refine Vs.wpPath_free (v := .bool false) rfl rfl (fun W => by simp only [Vs.opOf_succ, Vs.opOf_zero]; go_simp) ?_
          simp only [Vs.opOf_succ, Vs.opOf_zero, Act.put, List.setIfInBounds_toArray, List.set_cons_zero, List.set_cons_succ]
          refine Vs.wpPath_end fun A5 hA5 => ?_
          have HE : Hid (Rel w b r (k + 1) (setL L c (X, y)) A5) := ⟨hbo4.below hA5, srt_set HW5.out.2.1 _ _, rng_set HW5.out.2.2.1 _ _, set_bnd (bnd_mono HW5.out.2.2.2 (by push_cast; omega)) (by have := HXB.out; push_cast; omega)⟩
          clear hbo2 hbo4 hf2 hf4 hA1 hA3 hA5
          go_wp2
          go_meet
          case rel => exact ⟨_, rfl, HE⟩
        · have t1 := Int.tmod_lt_of_pos o (b := 8) (by omega)
          have t2 := Int.lt_tmod_of_pos o (b := 8) (by omega)
          have t3 := Int.tmod_lt_of_pos n (b := 8) (by omega)
          have t4 := Int.lt_tmod_of_pos n (b := 8) (by omega)
          have HT := Lib.hid (And.intro t1 (And.intro t2 (And.intro t3 t4)))
          have hb1 : Bnd 4611686018427387904 L := bnd_mono HW5.out.2.2.2 (by omega)
          have hs1 := fun W (h : Bo w (b + 1) b r L L W) => h.adjust (a.tmod 30) (o.tmod 8) (n.tmod 8) HW5.out.2.1 HW5.out.2.2.1 hb1
          have hs2 := fun W (h : Bo w (b + 1) b r (adj L (a.tmod 30) (o.tmod 8) (n.tmod 8)) L W) => h.adjust13 (a.tmod 30) (o.tmod 8) (n.tmod 8) (length_rng HW5.out.2.1 HW5.out.2.2.1) hb1
          have x4 := HX5.out.1
          have x5 := HX5.out.2.1
          have x6 := HX5.out.2.2
          clear t1 t2 t3 t4 hb1
          go_wp2_with fail
          refine (hs1 _ HW5.out.1).mono ?_
          rintro e A2 ⟨rfl, hbo2, hf2⟩
          have x4 := hf2.cell x4 HGB.out
          have x5 := hf2.cell x5 HGB.out
          have x6 := hf2.cell x6 HGB.out
          clear hs1 hf2
          go_wp2_with fail
          refine (hs2 _ hbo2).mono ?_
          rintro e A4 ⟨rfl, hbo4, _⟩
          have HE : Hid (Rel w b r (k + 1) (adj L (a.tmod 30) (o.tmod 8) (n.tmod 8)) A4) := ⟨hbo4, srt_adj HW5.out.2.1 _ _ _, rng_adj HW5.out.2.2.1 _ _ _, bnd_mono (adj_bnd HW5.out.2.2.2 ⟨HT.out.2.1, HT.out.1, HT.out.2.2.2, HT.out.2.2.1⟩) (by push_cast; omega)⟩
          clear hs2 hbo2 hbo4
          go_wp2
          go_meet
          case rel => exact ⟨_, rfl, HE⟩
      case rest =>
        obtain ⟨L', rfl, HW1⟩ := hcut
        go_wp2_with fail
        obtain ⟨w8, hw8⟩ : ∃ w8, w8 = wc.alloc (.cells #[.int .u8 (c : Int), .int .u8 (d : Int), .int .u8 96, .int .u8 97] TU) := ⟨_, rfl⟩
        have hb8 : Below wc.heap.size wc w8 := by rw [hw8]; exact (Below.refl _ _).alloc (Nat.le_refl _) _
        have hrow8 : w8.heap[wc.heap.size]? = some (.cells #[.int .u8 (c : Int), .int .u8 (d : Int), .int .u8 96, .int .u8 97] TU (0, 0)) := by rw [hw8]; exact heap_alloc_new wc _
        show Code.wp _ _ _ _ (wc.alloc (.cells #[.int .u8 (c : Int), .int .u8 (d : Int), .int .u8 96, .int .u8 97] TU))
        rw [← hw8]
        obtain ⟨g8, hg8⟩ : ∃ g8, g8 = wc.heap.size := ⟨_, rfl⟩
        rw [← hg8] at hrow8 ⊢
        have HX8 : Hid (∀ j, j < 4 → ∃ e : Nat, e < 256 ∧ w8.cell? ⟨g8, j, none⟩ = some (.int .u8 (e : Int))) := fun j hj => by
          obtain rfl | rfl | rfl | rfl : j = 0 ∨ j = 1 ∨ j = 2 ∨ j = 3 := by omega
          · exact ⟨c, hc256, (cell_of_row w8 _ 0 _ _ _ hrow8).trans rfl⟩
          · exact ⟨d, hd256, (cell_of_row w8 _ 1 _ _ _ hrow8).trans rfl⟩
          · exact ⟨96, by omega, (cell_of_row w8 _ 2 _ _ _ hrow8).trans rfl⟩
          · exact ⟨97, by omega, (cell_of_row w8 _ 3 _ _ _ hrow8).trans rfl⟩
        have HW8 : Hid (Rel w b r (k + 1) L' w8) := ⟨HW1.out.1.below hb8, HW1.out.2⟩
        clear hw8 hb8 hrow8 hg8 HW1
        go_loopw [90] (fun i wq => ∃ j : Nat, j ≤ 4 ∧ i = .int .i64 j ∧ Hid (Below w8.heap.size w8 wq)) (fun i _ => 4 - (RowKit.intOf i).toNat)
        case atStart => exact ⟨0, by omega, rfl, Below.refl _ _⟩
        case round =>
          obtain ⟨j, hj4, rfl, D⟩ := hrel
          by_cases hj : j < 4
          · obtain ⟨e, he256, hce⟩ := HX8.out j hj
            have hce := cell_later D.out hce
            have hg1 := fun W (h : Bo w (b + 1) b r L' L' W) => h.get he256
            have hg2 := fun W (h : Bo w (b + 1) b r L' L' W) => h.get13 he256 (length_rng HW8.out.2.1 HW8.out.2.2.1)
            obtain ⟨X, hX⟩ : ∃ X, X = (lz (lk L' e)).1 := ⟨_, rfl⟩
            obtain ⟨Y, hY⟩ : ∃ Y, Y = (lz (lk L' e)).2 := ⟨_, rfl⟩
            obtain ⟨Q, hQ⟩ : ∃ Q, Q = (lk L' e).isSome := ⟨_, rfl⟩
            rw [← hX, ← hY, ← hQ] at hg1 hg2
            clear hX hY hQ
            go_wp2_with fail
            refine (hg1 _ (HW8.out.1.below D.out)).mono ?_
            rintro e1 u1 ⟨rfl, hb1⟩
            have D1 := below_on D.out hb1
            clear hg1 hce
            obtain ⟨u2, hu2⟩ : ∃ u2, u2 = u1.alloc (.cells #[.int .i64 X, .int .i64 Y] 37) := ⟨_, rfl⟩
            have hb2 : Below u1.heap.size u1 u2 := by rw [hu2]; exact (Below.refl _ _).alloc (Nat.le_refl _) _
            have hp2 : PosAt u2 u1.heap.size X Y := by rw [hu2]; exact PosAt.new u1 X Y
            have D2 := below_on D1 hb2
            have HU2 := Lib.hid hu2
            clear hu2 hb1 hb2
            go_wp2_with fail
            rw [← HU2.out]
            refine (hg2 _ (HW8.out.1.below D2)).mono ?_
            rintro e1 u3 ⟨rfl, hb3⟩
            have hp3 := hp2.below hb3 hp2.lt
            have hp4 := hp3.below ((Below.refl u3.heap.size u3).alloc (Nat.le_refl _) (.cells #[.int .i64 X, .int .i64 Y] 37)) hp3.lt
            have D4 := Lib.hid ((below_on D2 hb3).alloc (below_on D2 hb3).size (.cells #[.int .i64 X, .int .i64 Y] 37))
            have q0 := hp4.c0
            have q1 := hp4.c1
            have hne := neq_pos X Y X Y (u3.alloc (.cells #[.int .i64 X, .int .i64 Y] 37))
            simp only [decide_true, Bool.and_self, Bool.not_true] at hne
            clear hg2 hp2 hp3 hp4 hb3 D1 D2
            go_wp2
            go_roundw
            case rel => exact ⟨j + 1, by omega, by go_num, D4⟩
            case measure => simp [RowKit.intOf]; omega
          · obtain rfl : j = 4 := by omega
            have hbo := HW8.out.1.below D.out
            have hnm := fun W (hb : Below wr.heap.size wr W) => names_any (b + 1) b L' W (hbo.below hb).ms HW8.out.2.1 HW8.out.2.2.1
            obtain ⟨ra, rac, rb, rbc, k1, k2, k3, k4⟩ := hbo.rf
            have hr0 : wr.cell? ⟨r, 0, none⟩ = some (.slice ra L'.length rac) := (cell_of_row wr _ 0 _ _ _ k1).trans (by simp)
            have F_r := fun (C : World → Prop) (hC : Grows wr C) (z : In C) => hC.cell hr0 z
            have F_2 := fun (C : World → Prop) (hC : Grows wr C) (z : In C) => conv_names (SrcV.below (SrcV.ofOwn k3 (nbs_one _)) (hC.below _ z.isIn))
            clear hr0 k1 k2 k3 k4 rb rbc
            have HBO2 := Lib.hid hbo
            clear hbo D
            obtain ⟨M, hM⟩ : ∃ M, M = L'.length := ⟨_, rfl⟩
            obtain ⟨St, hSt⟩ : ∃ St, St = strN (nms L') := ⟨_, rfl⟩
            have hcv : ∀ (W : World) (aa : Option Addr) (cc : Nat), SrcV W 1 (.slice aa L'.length cc) L'.length (nbs (nms L')) → (convert 32 9 (.slice aa L'.length cc)).run Try.prog W = .ok (.string (strN (nms L'))) W := fun W aa cc h => conv_names h
            rw [← hM, ← hSt] at hcv
            rw [← hM] at hnm
            simp only [← hM, ← hSt] at F_r F_2
            have HCV := Lib.hid hcv
            clear hM hSt hcv
            go_wp2_with fail
            refine wp_region_seg [0, 3, 4, 5, 6, 7] [(1, 1), (2, 1), (8, 2)] (by kernel_rfl) (by kernel_rfl) 124 rfl (by kernel_rfl) ?_
            simp only [List.map_cons, List.map_nil, opOf_succ, opOf_zero]
            apply Exists.intro
            refine ⟨fun C hC => ?_, ?_⟩
            · haveI hI := hC.one
              have f_r := F_r C hC
              have f_2 := F_2 C hC
              repeat (go_big_quiet_step (fail))
              exact wpQuiet_nil rfl
            clear F_r F_2
            refine wpPath_call (f := 18) (args := #[.pointer (some ⟨b + 1, 0, none⟩)]) rfl rfl (fun W => by simp only [opOf_succ, opOf_zero]; go_simp) ?_
            intro A1 hA1
            refine (hnm _ hA1).mono ?_
            rintro e A2 ⟨na, nc, rfl, hsrc, _, hA2⟩
            refine ⟨_, rfl, hA2, ?_⟩
            simp only [opOf_succ, opOf_zero, Act.put, List.setIfInBounds_toArray, List.set_cons_zero, List.set_cons_succ]
            clear hnm
            refine wpPath_make rfl fun A3 hA3 => ?_
            have hc3 := HCV.out A3 na nc (SrcV.below hsrc hA3)
            refine ⟨.string St, A3, rfl, by simp only [opOf_succ, opOf_zero]; go_simp, Below.refl _ _, ?_⟩
            simp only [opOf_succ, opOf_zero, Act.put, List.setIfInBounds_toArray, List.set_cons_zero, List.set_cons_succ]
            clear hc3
            refine wpPath_free (v := .bool false) rfl rfl (fun W => by simp only [opOf_succ, opOf_zero]; go_simp) ?_
            simp only [opOf_succ, opOf_zero, Act.put, List.setIfInBounds_toArray, List.set_cons_zero, List.set_cons_succ]
            refine wpPath_end fun A5 hA5 => ?_
            have HE : Hid (Rel w b r (k + 1) L' A5) := ⟨HBO2.out.below (below_on (below_on hA1 hA2) (below_on hA3 hA5)), HW8.out.2⟩
            clear hA1 hA2 hA3 hA5 hsrc
            go_wp2
            go_roundw
            case rel => exact ⟨k + 1, L', by omega, by go_num, HE⟩
            case measure => simp [RowKit.intOf]; omega
end Go.Proofs.Ytmmmaadhbmgciaa.MPl
