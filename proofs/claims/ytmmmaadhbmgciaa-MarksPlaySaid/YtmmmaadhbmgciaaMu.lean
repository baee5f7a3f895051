/-
  The document's Adjust.
-/
import Derived.Test.YtmmmaadhbmgciaaMs
set_option linter.unusedVariables false
set_option linter.unusedSimpArgs false
set_option maxRecDepth 100000
namespace Go.Proofs.Ytmmmaadhbmgciaa.Mk
open Go Go.RowKit Go.Proofs.Ytmmmaadhbmgciaa.Vk Go.Proofs.Ytmmmaadhbmgciaa.Str Go.Proofs.Ytmmmaadhbmgciaa.Ln Go.Proofs.Ytmmmaadhbmgciaa.Cl Go.Proofs.Ytmmmaadhbmgciaa.Ml
attribute [local go_sem] Oper.semAt_some

/-- The two rows that a change lays, so far. -/
def JW (w : World) (L : ML) (N : Nat) (b : Option Addr) (cc : Nat) (b2 : Option Addr) (c2 : Nat) (W : World) : Prop :=
  L.length = N ∧ W.ownsRow w.heap.size TU 1 (.slice b N cc) N (nbs (nms L)) ∧ W.ownsRow w.heap.size EP 2 (.slice b2 N c2) N (flat (plc L)) ∧ Below w.heap.size w W
theorem JW.nil (w : World) : JW w [] 0 none 0 none 0 w := ⟨rfl, World.ownsRow_nil _ _ _ _, World.ownsRow_nil _ _ _ _, Below.refl _ _⟩
theorem JW.below {w W V : World} {L : ML} {N : Nat} {b b2 : Option Addr} {cc c2 : Nat} (h : JW w L N b cc b2 c2 W) (hb : Below W.heap.size W V) : JW w L N b cc b2 c2 V :=
  ⟨h.1, ownsRow_fr h.2.1 (Fr.ofBelow hb (fun _ => False)) (by simp), ownsRow_fr h.2.2.1 (Fr.ofBelow hb (fun _ => False)) (by simp), h.2.2.2.trans (hb.mono h.2.2.2.size)⟩

/-- Such rows, of unlike lengths. -/
def JX (w : World) (l1 : List Nat) (N1 : Nat) (b : Option Addr) (cc : Nat) (l2 : List P2) (N2 : Nat) (b2 : Option Addr) (c2 : Nat) (W : World) : Prop :=
  l1.length = N1 ∧ l2.length = N2 ∧ W.ownsRow w.heap.size TU 1 (.slice b N1 cc) N1 (nbs l1) ∧ W.ownsRow w.heap.size EP 2 (.slice b2 N2 c2) N2 (flat l2) ∧ Below w.heap.size w W
theorem JW.jx {w W : World} {L : ML} {N : Nat} {b b2 : Option Addr} {cc c2 : Nat} (h : JW w L N b cc b2 c2 W) : JX w (nms L) N b cc (plc L) N b2 c2 W :=
  ⟨by rw [length_nms]; exact h.1, by rw [length_plc]; exact h.1, h.2.1, h.2.2.1, h.2.2.2⟩
theorem JX.jw {w W : World} {L : ML} {N c : Nat} {p : P2} {b b2 : Option Addr} {cc c2 : Nat} (h : JX w (nms L ++ [c]) (N + 1) b cc (plc L ++ [p]) (N + 1) b2 c2 W) : JW w (L ++ [(c, p)]) (N + 1) b cc b2 c2 W := by
  obtain ⟨h1, h2, h3, h4, h5⟩ := h
  have e1 : nms (L ++ [(c, p)]) = nms L ++ [c] := by simp [nms]
  have e2 : plc (L ++ [(c, p)]) = plc L ++ [p] := by simp [plc]
  exact ⟨by rw [← length_nms, e1]; exact h1, by rw [e1]; exact h3, by rw [e2]; exact h4, h5⟩
section
variable {w W : World} {l1 : List Nat} {N1 N2 : Nat} {l2 : List P2} {b b2 : Option Addr} {cc c2 : Nat}
theorem JX.below {V : World} (h : JX w l1 N1 b cc l2 N2 b2 c2 W) (hb : Below W.heap.size W V) : JX w l1 N1 b cc l2 N2 b2 c2 V :=
  ⟨h.1, h.2.1, ownsRow_fr h.2.2.1 (Fr.ofBelow hb (fun _ => False)) (by simp), ownsRow_fr h.2.2.2.1 (Fr.ofBelow hb (fun _ => False)) (by simp), h.2.2.2.2.trans (hb.mono h.2.2.2.2.size)⟩
theorem JX.appU {xv : Value} {c : Nat} (h : JX w l1 N1 b cc l2 N2 b2 c2 W) (hs : SrcV W 1 xv 1 [.int .u8 (c : Int)]) (hn : N1 ≤ 27) :
    ∃ b' c' V, (Builtin.append_ #[32, 32] 32 #[.slice b N1 cc, xv]).run Try.prog W = .ok (.slice b' (N1 + 1) c') V ∧ JX w (l1 ++ [c]) (N1 + 1) b' c' l2 N2 b2 c2 V ∧ W.grownBy V (Value.slice b N1 cc).ownBlock := by
  obtain ⟨i0, hi0, hz0, hz1, hz2⟩ := info_parts infoU
  obtain ⟨h1, h2, h3, h4, h5⟩ := h
  obtain ⟨b', c', V, hr, ho, hg, _⟩ := run_append_srcv (P := Try.prog) W 32 32 w.heap.size TU i0 (.int .u8 0) 1 1 underU hi0 hz0 hz1 hz2 rfl (by decide) _ N1 _ h3 xv 1 _ hs (by simp only [maxLen]; omega) (by omega) h5.size
  refine ⟨b', c', V, hr, ⟨by simp [h1], h2, by rw [nbs_app]; exact ho, ?_, h5.grown hg h5.size (fun k e => (h3.lt k e).1)⟩, hg⟩
  refine h4.kept hg ?_
  cases hb : (Value.slice b2 N2 c2).ownBlock with
  | none => exact .inl rfl
  | some g =>
    refine .inr fun e => ?_
    obtain ⟨cs, e1⟩ := own_row_cells h4 g hb
    obtain ⟨cs2, e2⟩ := own_row_cells h3 g e.symm
    rw [e1] at e2
    simp only [Option.some.injEq, Obj.cells.injEq] at e2
    exact absurd e2.2.1 (by decide)
theorem JX.appP {xv : Value} {x y : Int} (h : JX w l1 N1 b cc l2 N2 b2 c2 W) (hs : SrcV W 2 xv 1 [.int .i64 x, .int .i64 y]) (hn : N2 ≤ 27) :
    ∃ b' c' V, (Builtin.append_ #[33, 33] 33 #[.slice b2 N2 c2, xv]).run Try.prog W = .ok (.slice b' (N2 + 1) c') V ∧ JX w l1 N1 b cc (l2 ++ [(x, y)]) (N2 + 1) b' c' V ∧ W.grownBy V (Value.slice b2 N2 c2).ownBlock := by
  obtain ⟨i0, hi0, hz0, hz1, hz2⟩ := info_parts infoP
  obtain ⟨h1, h2, h3, h4, h5⟩ := h
  obtain ⟨b', c', V, hr, ho, hg, _⟩ := run_append_srcv (P := Try.prog) W 33 33 w.heap.size EP i0 (.agg #[.int .i64 0, .int .i64 0]) 2 16 underP hi0 hz0 hz1 hz2 rfl (by decide) _ N2 _ h4 xv 1 _ hs (by simp only [maxLen]; omega) (by omega) h5.size
  refine ⟨b', c', V, hr, ⟨h1, by simp [h2], ?_, by rw [flat_append, flat_one]; exact ho, h5.grown hg h5.size (fun k e => (h4.lt k e).1)⟩, hg⟩
  refine h3.kept hg ?_
  cases hb : (Value.slice b N1 cc).ownBlock with
  | none => exact .inl rfl
  | some g =>
    refine .inr fun e => ?_
    obtain ⟨cs, e1⟩ := own_row_cells h3 g hb
    obtain ⟨cs2, e2⟩ := own_row_cells h4 g e.symm
    rw [e1] at e2
    simp only [Option.some.injEq, Obj.cells.injEq] at e2
    exact absurd e2.2.1 (by decide)
end

set_option maxHeartbeats 4000000 in
theorem adjust13_any (r B : Nat) (L : ML) (a o n : Int) (w : World) (h : Rfs w B r L) (hl : L.length ≤ 27) (hB : B ≤ w.heap.size) (hb : Bnd 4611686018427387904 L) : Calls Try.prog 15 #[.pointer (some ⟨r, 0, none⟩), .int .i64 a, .int .i64 o, .int .i64 n] w fun e w' =>
    e = .returned (.tuple #[]) ∧ Rfs w' B r (adj L a o n) ∧ Fr (RBlk w r) w w' := by
  obtain ⟨i0, hi0, hz0, hz1, hz2⟩ := info_parts infoU
  obtain ⟨j0, hj0, jz0, jz1, jz2⟩ := info_parts infoP
  obtain ⟨ra, rac, rb, rbc, h1, h2, h3, h4⟩ := h
  have hrl := (Array.getElem?_eq_some_iff.1 h1).1
  obtain ⟨M, hM⟩ : ∃ M, M = L.length := ⟨_, rfl⟩
  rw [← hM] at h1 h3 h4 hl
  have r0 : w.cell? ⟨r, 0, none⟩ = some (.slice ra M rac) := (cell_of_row w _ 0 _ _ _ h1).trans (by simp)
  have r1 : w.cell? ⟨r, 1, none⟩ = some (.slice rb M rbc) := (cell_of_row w _ 1 _ _ _ h1).trans (by simp)
  have HM := Lib.hid hM
  have HR := Lib.hid (And.intro h1 (And.intro hrl (And.intro h2 (And.intro h3 (And.intro h4 hB)))))
  have HC := Lib.hid (And.intro r0 r1)
  clear hM h1 h2 h3 h4 hrl r0 r1 hB
  go_enter Try.func15, Try.ntmps15
  go_wp2
  go_loopw [8, 9, 10] (fun u v i wr => ∃ (k N : Nat) (b : Option Addr) (cc : Nat) (b2 : Option Addr) (c2 : Nat), k ≤ M ∧ u = .slice b N cc ∧ v = .slice b2 N c2 ∧ i = .int .i64 k ∧ Hid (JW w (adj (L.take k) a o n) N b cc b2 c2 wr)) (fun _ _ i _ => M - (RowKit.intOf i).toNat)
  case atStart => exact ⟨0, 0, none, 0, none, 0, Nat.zero_le _, rfl, rfl, rfl, JW.nil w⟩
  case round =>
    obtain ⟨k, N, b, cc, b2, c2, hk, rfl, rfl, rfl, HW⟩ := hrel
    have r0 := cell_later HW.out.2.2.2 HC.out.1
    have r1 := cell_later HW.out.2.2.2 HC.out.2
    by_cases hkM : k < M
    · have hkL : k < L.length := by have := HM.out; omega
      have hN : N ≤ 27 := by
        have e1 := HW.out.1
        have e2 : (adj (L.take k) a o n).length ≤ (L.take k).length := List.length_filterMap_le _ _
        rw [List.length_take] at e2
        omega
      obtain ⟨ga, oa, hga, hn1, hn2⟩ := Rfs.name HR.out.2.2.2.1 k hkL
      obtain ⟨gb, ob, hgb, hp1, hp2, hp3⟩ := Rfs.place HR.out.2.2.2.2.1 k hkL
      subst hga hgb
      have hgal := World.block_lt_of_cell? w _ hn1
      simp only at hgal
      have hrl := HR.out.2.1
      have hn1 := cell_later HW.out.2.2.2 hn1
      have hp1 := cell_later HW.out.2.2.2 hp1
      have hp2 := cell_later HW.out.2.2.2 hp2
      obtain ⟨c, hc⟩ : ∃ c, c = L[k].1 := ⟨_, rfl⟩
      obtain ⟨x, hx⟩ : ∃ x, x = L[k].2.1 := ⟨_, rfl⟩
      obtain ⟨y, hy⟩ : ∃ y, y = L[k].2.2 := ⟨_, rfl⟩
      have hx1 := hb L[k] (List.getElem_mem _)
      rw [← hc] at hn1
      rw [← hx] at hp1 hx1
      rw [← hy] at hp2
      have hsh := fun W => shift13_any x a o n W hx1
      cases hg : shf x a o n with
      | none =>
        rw [shV_none hg] at hsh
        have HA := Lib.hid (show adj (L.take (k + 1)) a o n = adj (L.take k) a o n by
          rw [adj_take hkL, show one L[k] a o n = none by unfold one; rw [← hx, hg]; rfl]
          simp)
        clear hc hx hy hx1 hg
        go_wp2_with (go_at_call 10; refine (hsh _).mono ?_; rintro e w' ⟨rfl, rfl⟩)
        go_roundw
        case rel => exact ⟨k + 1, N, b, cc, b2, c2, by omega, rfl, rfl, by go_num, by rw [HA.out]; exact HW.out.below ((Below.refl _ _).alloc (Nat.le_refl _) _)⟩
        case measure => simp [RowKit.intOf]; omega
      | some l =>
        rw [shV_some hg] at hsh
        have HA := Lib.hid (show adj (L.take (k + 1)) a o n = adj (L.take k) a o n ++ [(c, (l, y))] by
          rw [adj_take hkL, show one L[k] a o n = some (c, (l, y)) by unfold one; rw [← hx, hg, ← hc, ← hy]; rfl]
          rfl)
        clear hc hx hy hx1 hg
        go_wp2_with (go_at_call 10; refine (hsh _).mono ?_; rintro e w' ⟨rfl, rfl⟩)
        have hOwn : ∀ j, (Value.slice b N cc).ownBlock = some j → j < wr.heap.size := fun j hj => (HW.out.2.1.lt j hj).2
        have hS : ∀ j, ((Value.slice b N cc).ownBlock = some j ∨ (Value.slice b2 N c2).ownBlock = some j) → w.heap.size ≤ j ∧ j < wr.heap.size := fun j hj => hj.elim (fun e => HW.out.2.1.lt j e) (fun e => HW.out.2.2.1.lt j e)
        obtain ⟨w2, hw2⟩ : ∃ w2, w2 = wr.alloc (.cells #[.int .i64 l, .int .i64 y] 37) := ⟨_, rfl⟩
        have hb2 : Below wr.heap.size wr w2 := by rw [hw2]; exact (Below.refl _ _).alloc (Nat.le_refl _) _
        have hsu : wr.heap.size < w2.heap.size := by rw [hw2]; simp
        have p2 : PosAt w2 wr.heap.size l y := by rw [hw2]; exact PosAt.new wr l y
        rw [← hw2]
        have J := (HW.out.below hb2).jx
        have k0 := cell_later hb2 r0
        have k1 := cell_later hb2 hn1
        have F_r := fun (C : World → Prop) (hC : Vs.Grows (fun j => (Value.slice b N cc).ownBlock = some j ∨ (Value.slice b2 N c2).ownBlock = some j) w2 C) (z : Vs.In C) => hC.cell k0 (fun e => by have := hS _ e; simp only at this; omega) z
        have F_n := fun (C : World → Prop) (hC : Vs.Grows (fun j => (Value.slice b N cc).ownBlock = some j ∨ (Value.slice b2 N c2).ownBlock = some j) w2 C) (z : Vs.In C) => hC.cell k1 (fun e => by have := hS _ e; simp only at this; omega) z
        have F_0 := fun (C : World → Prop) (hC : Vs.Grows (fun j => (Value.slice b N cc).ownBlock = some j ∨ (Value.slice b2 N c2).ownBlock = some j) w2 C) (z : Vs.In C) => hC.cell p2.c0 (fun e => by have := hS _ e; simp only at this; omega) z
        have F_1 := fun (C : World → Prop) (hC : Vs.Grows (fun j => (Value.slice b N cc).ownBlock = some j ∨ (Value.slice b2 N c2).ownBlock = some j) w2 C) (z : Vs.In C) => hC.cell p2.c1 (fun e => by have := hS _ e; simp only at this; omega) z
        clear hw2 hb2 p2 k0 k1 hn1 hp1 hp2 r0 r1
        refine Vs.wp_region_tree (S := fun j => (Value.slice b N cc).ownBlock = some j ∨ (Value.slice b2 N c2).ownBlock = some j) [] (.fork ([0, 1, 2, 3, 4, 5, 6, 7, 10, 11].map (fun i => (i, 0)) ++ []) 8 12 (.fork [] 9 12 (.path [(12, 1), (13, 1), (14, 2), (15, 2)]) (.path [(9, 1), (13, 1), (14, 2), (15, 2)])) (.path [(8, 1), (9, 1), (13, 1), (14, 2), (15, 2)])) (by kernel_rfl) (by kernel_rfl) ?_
        refine Vs.wpTr_fork (Vs.wpPath_on [0, 1, 2, 3, 4, 5, 6, 7, 10, 11] 64 rfl (by kernel_rfl) ?_)
        simp only [List.map_cons, List.map_nil, Vs.opOf_succ, Vs.opOf_zero]
        apply Exists.intro
        refine ⟨fun C hC => ?_, ?_⟩
        · haveI hI := hC.one
          have f_r := F_r C hC
          have f_n := F_n C hC
          have f_0 := F_0 C hC
          have f_1 := F_1 C hC
          repeat (go_big_quiet_step (fail))
          exact wpQuiet_nil rfl
        clear F_r F_n F_0 F_1 hS
        intro u hu
        have hsu := Nat.lt_of_lt_of_le hsu hu.size
        have J := J.below hu
        clear hu
        refine ⟨?_, ?_⟩
        · intro u hu
          have hsu := Nat.lt_of_lt_of_le hsu hu.size
          have J := J.below hu
          refine Vs.fork_make (W' := u.alloc (.cells #[.int .u8 (c : Int)] TU)) (u := .slice (some ⟨u.heap.size, 0, none⟩) 1 1) rfl rfl (by simp only [Vs.opOf_succ, Vs.opOf_zero]; go_simp) ?_
          refine ⟨Fr.ofBelow ((Below.refl _ u).alloc (Nat.le_refl _) _) _, ?_⟩
          simp only [Vs.opOf_succ, Vs.opOf_zero, Act.put, List.setIfInBounds_toArray, List.set_cons_zero, List.set_cons_succ]
          have SU := SrcV.u8 u (c : Int)
          obtain ⟨v, hv⟩ : ∃ v, v = u.alloc (.cells #[.int .u8 (c : Int)] TU) := ⟨_, rfl⟩
          have hbv : Below u.heap.size u v := by rw [hv]; exact (Below.refl _ u).alloc (Nat.le_refl _) _
          have J := J.below hbv
          obtain ⟨gU, hgU⟩ : ∃ g, g = u.heap.size := ⟨_, rfl⟩
          have HGU : wr.heap.size < gU := by rw [hgU]; exact hsu
          rw [← hv, ← hgU] at SU ⊢
          have hsu := Nat.lt_of_lt_of_le hsu hbv.size
          clear hv hbv hgU
          refine Vs.wpTr_fork ?_
          intro u hu
          have hsu := Nat.lt_of_lt_of_le hsu hu.size
          have J := J.below hu
          have SU := SrcV.below SU hu
          clear hu
          refine ⟨?_, ?_⟩
          · intro u hu
            have hsu := Nat.lt_of_lt_of_le hsu hu.size
            have J := J.below hu
            have SU := SrcV.below SU hu
            obtain ⟨bU, cU, v, hr, J, hg⟩ := J.appU SU (by omega)
            refine Vs.fork_make rfl rfl (by simp only [Vs.opOf_succ, Vs.opOf_zero]; exact exec_append rfl rfl rfl hr) ?_
            refine ⟨(Fr.refl _ u).grown hg (fun k hk _ => .inl hk), ?_⟩
            simp only [Vs.opOf_succ, Vs.opOf_zero, Act.put, List.setIfInBounds_toArray, List.set_cons_zero, List.set_cons_succ]
            have hsu := Nat.lt_of_lt_of_le hsu hg.size
            clear hr hg
            refine Vs.wpTr_path ?_
            refine Vs.wpPath_make rfl ?_
            intro u hu
            have hsu := Nat.lt_of_lt_of_le hsu hu.size
            have J := J.below hu
            refine ⟨.slice (some ⟨u.heap.size, 0, none⟩) 1 1, u.alloc (.cells #[.int .i64 l, .int .i64 y] EP), rfl, by simp only [Vs.opOf_succ, Vs.opOf_zero]; go_simp, Fr.ofBelow ((Below.refl _ u).alloc (Nat.le_refl _) _) _, ?_⟩
            simp only [Vs.opOf_succ, Vs.opOf_zero, Act.put, List.setIfInBounds_toArray, List.set_cons_zero, List.set_cons_succ]
            have SP := SrcV.pos u l y
            obtain ⟨v, hv⟩ : ∃ v, v = u.alloc (.cells #[.int .i64 l, .int .i64 y] EP) := ⟨_, rfl⟩
            have hbv : Below u.heap.size u v := by rw [hv]; exact (Below.refl _ u).alloc (Nat.le_refl _) _
            have J := J.below hbv
            obtain ⟨gP, hgP⟩ : ∃ g, g = u.heap.size := ⟨_, rfl⟩
            have HGP : wr.heap.size < gP := by rw [hgP]; exact hsu
            rw [← hv, ← hgP] at SP ⊢
            have hsu := Nat.lt_of_lt_of_le hsu hbv.size
            clear hv hbv hgP
            refine Vs.wpPath_make rfl ?_
            intro u hu
            have hsu := Nat.lt_of_lt_of_le hsu hu.size
            have J := J.below hu
            have SP := SrcV.below SP hu
            obtain ⟨bP, cP, v, hr, J, hg⟩ := J.appP SP (by omega)
            refine ⟨_, v, rfl, by simp only [Vs.opOf_succ, Vs.opOf_zero]; exact exec_append rfl rfl rfl hr, (Fr.refl _ u).grown hg (fun k hk _ => .inr hk), ?_⟩
            simp only [Vs.opOf_succ, Vs.opOf_zero, Act.put, List.setIfInBounds_toArray, List.set_cons_zero, List.set_cons_succ]
            have hsu := Nat.lt_of_lt_of_le hsu hg.size
            clear hr hg
            clear hOwn
            refine Vs.wpPath_free (v := .slice bU (N + 1) cU) rfl rfl (fun _ => rfl) ?_
            simp only [Vs.opOf_succ, Vs.opOf_zero, Act.put, List.setIfInBounds_toArray, List.set_cons_zero, List.set_cons_succ]
            refine Vs.wpPath_free (v := .slice bP (N + 1) cP) rfl rfl (fun _ => rfl) ?_
            simp only [Vs.opOf_succ, Vs.opOf_zero, Act.put, List.setIfInBounds_toArray, List.set_cons_zero, List.set_cons_succ]
            refine Vs.wpPath_end fun u hu => ?_
            have J := J.below hu
            have HE := Lib.hid (show JW w (adj (L.take (k + 1)) a o n) (N + 1) bU cU bP cP u by rw [HA.out]; exact J.jw)
            clear J hu hsu
            go_wp2
            go_roundw
            case rel => exact ⟨k + 1, N + 1, bU, cU, bP, cP, by omega, rfl, rfl, by go_num, HE⟩
            case measure => simp [RowKit.intOf]; omega
          · intro u hu
            have hsu := Nat.lt_of_lt_of_le hsu hu.size
            have J := J.below hu
            have SU := SrcV.below SU hu
            refine Vs.fork_make (W' := u.alloc (.cells #[.int .i64 l, .int .i64 y] EP)) (u := .slice (some ⟨u.heap.size, 0, none⟩) 1 1) rfl rfl (by simp only [Vs.opOf_succ, Vs.opOf_zero]; go_simp) ?_
            refine ⟨Fr.ofBelow ((Below.refl _ u).alloc (Nat.le_refl _) _) _, ?_⟩
            simp only [Vs.opOf_succ, Vs.opOf_zero, Act.put, List.setIfInBounds_toArray, List.set_cons_zero, List.set_cons_succ]
            have SP := SrcV.pos u l y
            obtain ⟨v, hv⟩ : ∃ v, v = u.alloc (.cells #[.int .i64 l, .int .i64 y] EP) := ⟨_, rfl⟩
            have hbv : Below u.heap.size u v := by rw [hv]; exact (Below.refl _ u).alloc (Nat.le_refl _) _
            have J := J.below hbv
            have SU := SrcV.below SU hbv
            obtain ⟨gP, hgP⟩ : ∃ g, g = u.heap.size := ⟨_, rfl⟩
            have HGP : wr.heap.size < gP := by rw [hgP]; exact hsu
            rw [← hv, ← hgP] at SP ⊢
            have hsu := Nat.lt_of_lt_of_le hsu hbv.size
            clear hv hbv hgP
            refine Vs.wpTr_path ?_
            refine Vs.wpPath_make rfl ?_
            intro u hu
            have hsu := Nat.lt_of_lt_of_le hsu hu.size
            have J := J.below hu
            have SU := SrcV.below SU hu
            have SP := SrcV.below SP hu
            obtain ⟨bU, cU, v, hr, J, hg⟩ := J.appU SU (by omega)
            refine ⟨_, v, rfl, by simp only [Vs.opOf_succ, Vs.opOf_zero]; exact exec_append rfl rfl rfl hr, (Fr.refl _ u).grown hg (fun k hk _ => .inl hk), ?_⟩
            simp only [Vs.opOf_succ, Vs.opOf_zero, Act.put, List.setIfInBounds_toArray, List.set_cons_zero, List.set_cons_succ]
            have SP := SP.fr ((Fr.refl (fun j => (Value.slice b N cc).ownBlock = some j) u).grown hg (fun j hj _ => hj)) (fun _ j hj hj2 => by have := hOwn j hj2; simp only [blk, Option.some.injEq] at hj; omega)
            have hsu := Nat.lt_of_lt_of_le hsu hg.size
            clear hr hg
            refine Vs.wpPath_make rfl ?_
            intro u hu
            have hsu := Nat.lt_of_lt_of_le hsu hu.size
            have J := J.below hu
            have SP := SrcV.below SP hu
            obtain ⟨bP, cP, v, hr, J, hg⟩ := J.appP SP (by omega)
            refine ⟨_, v, rfl, by simp only [Vs.opOf_succ, Vs.opOf_zero]; exact exec_append rfl rfl rfl hr, (Fr.refl _ u).grown hg (fun k hk _ => .inr hk), ?_⟩
            simp only [Vs.opOf_succ, Vs.opOf_zero, Act.put, List.setIfInBounds_toArray, List.set_cons_zero, List.set_cons_succ]
            have hsu := Nat.lt_of_lt_of_le hsu hg.size
            clear hr hg
            clear hOwn
            refine Vs.wpPath_free (v := .slice bU (N + 1) cU) rfl rfl (fun _ => rfl) ?_
            simp only [Vs.opOf_succ, Vs.opOf_zero, Act.put, List.setIfInBounds_toArray, List.set_cons_zero, List.set_cons_succ]
            refine Vs.wpPath_free (v := .slice bP (N + 1) cP) rfl rfl (fun _ => rfl) ?_
            simp only [Vs.opOf_succ, Vs.opOf_zero, Act.put, List.setIfInBounds_toArray, List.set_cons_zero, List.set_cons_succ]
            refine Vs.wpPath_end fun u hu => ?_
            have J := J.below hu
            have HE := Lib.hid (show JW w (adj (L.take (k + 1)) a o n) (N + 1) bU cU bP cP u by rw [HA.out]; exact J.jw)
            clear J hu hsu
            go_wp2
            go_roundw
            case rel => exact ⟨k + 1, N + 1, bU, cU, bP, cP, by omega, rfl, rfl, by go_num, HE⟩
            case measure => simp [RowKit.intOf]; omega
        · intro u hu
          have hsu := Nat.lt_of_lt_of_le hsu hu.size
          have J := J.below hu
          refine Vs.fork_make (W' := u.alloc (.cells #[.int .i64 l, .int .i64 y] EP)) (u := .slice (some ⟨u.heap.size, 0, none⟩) 1 1) rfl rfl (by simp only [Vs.opOf_succ, Vs.opOf_zero]; go_simp) ?_
          refine ⟨Fr.ofBelow ((Below.refl _ u).alloc (Nat.le_refl _) _) _, ?_⟩
          simp only [Vs.opOf_succ, Vs.opOf_zero, Act.put, List.setIfInBounds_toArray, List.set_cons_zero, List.set_cons_succ]
          have SP := SrcV.pos u l y
          obtain ⟨v, hv⟩ : ∃ v, v = u.alloc (.cells #[.int .i64 l, .int .i64 y] EP) := ⟨_, rfl⟩
          have hbv : Below u.heap.size u v := by rw [hv]; exact (Below.refl _ u).alloc (Nat.le_refl _) _
          have J := J.below hbv
          obtain ⟨gP, hgP⟩ : ∃ g, g = u.heap.size := ⟨_, rfl⟩
          have HGP : wr.heap.size < gP := by rw [hgP]; exact hsu
          rw [← hv, ← hgP] at SP ⊢
          have hsu := Nat.lt_of_lt_of_le hsu hbv.size
          clear hv hbv hgP
          refine Vs.wpTr_path ?_
          refine Vs.wpPath_make rfl ?_
          intro u hu
          have hsu := Nat.lt_of_lt_of_le hsu hu.size
          have J := J.below hu
          have SP := SrcV.below SP hu
          refine ⟨.slice (some ⟨u.heap.size, 0, none⟩) 1 1, u.alloc (.cells #[.int .u8 (c : Int)] TU), rfl, by simp only [Vs.opOf_succ, Vs.opOf_zero]; go_simp, Fr.ofBelow ((Below.refl _ u).alloc (Nat.le_refl _) _) _, ?_⟩
          simp only [Vs.opOf_succ, Vs.opOf_zero, Act.put, List.setIfInBounds_toArray, List.set_cons_zero, List.set_cons_succ]
          have SU := SrcV.u8 u (c : Int)
          obtain ⟨v, hv⟩ : ∃ v, v = u.alloc (.cells #[.int .u8 (c : Int)] TU) := ⟨_, rfl⟩
          have hbv : Below u.heap.size u v := by rw [hv]; exact (Below.refl _ u).alloc (Nat.le_refl _) _
          have J := J.below hbv
          have SP := SrcV.below SP hbv
          obtain ⟨gU, hgU⟩ : ∃ g, g = u.heap.size := ⟨_, rfl⟩
          have HGU : wr.heap.size < gU := by rw [hgU]; exact hsu
          rw [← hv, ← hgU] at SU ⊢
          have hsu := Nat.lt_of_lt_of_le hsu hbv.size
          clear hv hbv hgU
          refine Vs.wpPath_make rfl ?_
          intro u hu
          have hsu := Nat.lt_of_lt_of_le hsu hu.size
          have J := J.below hu
          have SP := SrcV.below SP hu
          have SU := SrcV.below SU hu
          obtain ⟨bU, cU, v, hr, J, hg⟩ := J.appU SU (by omega)
          refine ⟨_, v, rfl, by simp only [Vs.opOf_succ, Vs.opOf_zero]; exact exec_append rfl rfl rfl hr, (Fr.refl _ u).grown hg (fun k hk _ => .inl hk), ?_⟩
          simp only [Vs.opOf_succ, Vs.opOf_zero, Act.put, List.setIfInBounds_toArray, List.set_cons_zero, List.set_cons_succ]
          have SP := SP.fr ((Fr.refl (fun j => (Value.slice b N cc).ownBlock = some j) u).grown hg (fun j hj _ => hj)) (fun _ j hj hj2 => by have := hOwn j hj2; simp only [blk, Option.some.injEq] at hj; omega)
          have hsu := Nat.lt_of_lt_of_le hsu hg.size
          clear hr hg
          refine Vs.wpPath_make rfl ?_
          intro u hu
          have hsu := Nat.lt_of_lt_of_le hsu hu.size
          have J := J.below hu
          have SP := SrcV.below SP hu
          obtain ⟨bP, cP, v, hr, J, hg⟩ := J.appP SP (by omega)
          refine ⟨_, v, rfl, by simp only [Vs.opOf_succ, Vs.opOf_zero]; exact exec_append rfl rfl rfl hr, (Fr.refl _ u).grown hg (fun k hk _ => .inr hk), ?_⟩
          simp only [Vs.opOf_succ, Vs.opOf_zero, Act.put, List.setIfInBounds_toArray, List.set_cons_zero, List.set_cons_succ]
          have hsu := Nat.lt_of_lt_of_le hsu hg.size
          clear hr hg
          clear hOwn
          refine Vs.wpPath_free (v := .slice bU (N + 1) cU) rfl rfl (fun _ => rfl) ?_
          simp only [Vs.opOf_succ, Vs.opOf_zero, Act.put, List.setIfInBounds_toArray, List.set_cons_zero, List.set_cons_succ]
          refine Vs.wpPath_free (v := .slice bP (N + 1) cP) rfl rfl (fun _ => rfl) ?_
          simp only [Vs.opOf_succ, Vs.opOf_zero, Act.put, List.setIfInBounds_toArray, List.set_cons_zero, List.set_cons_succ]
          refine Vs.wpPath_end fun u hu => ?_
          have J := J.below hu
          have HE := Lib.hid (show JW w (adj (L.take (k + 1)) a o n) (N + 1) bU cU bP cP u by rw [HA.out]; exact J.jw)
          clear J hu hsu
          go_wp2
          go_roundw
          case rel => exact ⟨k + 1, N + 1, bU, cU, bP, cP, by omega, rfl, rfl, by go_num, HE⟩
          case measure => simp [RowKit.intOf]; omega
    · obtain rfl : k = M := by omega
      have hr := (HW.out.2.2.2.block r HR.out.2.1).trans HR.out.1
      have z := fun j => frozen_of_row wr r j _ _ hr
      have HE := Lib.hid (And.intro hr HW.out)
      clear hr HW
      rw [show adj (L.take k) a o n = adj L a o n by rw [HM.out, List.take_length]] at HE
      go_wp2
      go_end0
      obtain ⟨hr, e1, e2, e3, e4⟩ := HE.out
      have hf : Fr (fun j => j = r) w ((wr.setCell ⟨r, 0, none⟩ (.slice b N cc)).setCell ⟨r, 1, none⟩ (.slice b2 N c2)) := ((Fr.ofBelow e4 (fun j => j = r)).setCell (p := ⟨r, 0, none⟩) (fun _ => rfl) _).setCell (p := ⟨r, 1, none⟩) (fun _ => rfl) _
      have hf2 : Fr (fun j => j = r) wr ((wr.setCell ⟨r, 0, none⟩ (.slice b N cc)).setCell ⟨r, 1, none⟩ (.slice b2 N c2)) := ((Fr.refl (fun j => j = r) wr).setCell (p := ⟨r, 0, none⟩) (fun _ => rfl) _).setCell (p := ⟨r, 1, none⟩) (fun _ => rfl) _
      have hrl := HR.out.2.1
      refine ⟨rfl, ⟨b, cc, b2, c2, by rw [e1]; exact slot1 (slot0 hr _) _, HR.out.2.2.1, ?_, ?_⟩, hf.mono (fun i _ e => .inl e)⟩
      · rw [e1]
        exact ownsRow_mono (ownsRow_fr e2 hf2 (fun i hi e => by have := (e2.lt i hi).1; omega)) HR.out.2.2.2.2.2
      · rw [e1]
        exact ownsRow_mono (ownsRow_fr e3 hf2 (fun i hi e => by have := (e3.lt i hi).1; omega)) HR.out.2.2.2.2.2
end Go.Proofs.Ytmmmaadhbmgciaa.Mk
