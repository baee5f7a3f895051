/-
  The document's other: the bracket that belongs to one.
-/
import Derived.Test.YtbimblfkkmpieaaJb
set_option linter.unusedVariables false
set_option linter.unusedSimpArgs false
set_option maxRecDepth 100000
namespace Go.Proofs.Ytbimblfkkmpieaa.Pr
open Go Go.RowKit Go.Proofs.Ytbimblfkkmpieaa.Vk Go.Proofs.Ytbimblfkkmpieaa.Str Go.Proofs.Ytbimblfkkmpieaa.Ln Go.Proofs.Ytbimblfkkmpieaa.Cl Go.Proofs.Ytbimblfkkmpieaa.Mv Go.Proofs.Ytbimblfkkmpieaa.Wd Go.Shelf
attribute [local go_sem] Oper.semAt_some

theorem name_wp {Pg : Program} {c : Code} {Q : Exit → Act → World → Prop} {a : Act} {W : World} (h : ∀ Wi, Wi = W → c.wp Pg Q a Wi) : c.wp Pg Q a W := h W rfl
/-- How many bytes are still to come. -/
def ms (ls : List ByteArray) (back : Bool) (u v : Value) (w : World) : Nat :=
  match v, u with
  | .bool true, .pointer (some p) => 1 + (nx ls back (RowKit.intOf ((w.cell? ⟨p.block, 0, none⟩).getD undef)).toNat (RowKit.intOf ((w.cell? ⟨p.block, 1, none⟩).getD undef)).toNat).length
  | _, _ => 0
theorem ms_at {ls : List ByteArray} {back : Bool} {w : World} {G i k : Nat} (h : PosAt w G i k) : ms ls back (.pointer (some ⟨G, 0, none⟩)) (.bool true) w = 1 + (nx ls back i k).length := by
  have h0 := h.c0
  have h1 := h.c1
  unfold ms
  simp only [h0, h1]
  simp [RowKit.intOf]
theorem ms_no {ls : List ByteArray} {back : Bool} {u : Value} {w : World} : ms ls back u (.bool false) w = 0 := rfl
theorem nx_length (ls : List ByteArray) (back : Bool) {i k : Nat} (hi : i < ls.length) (hk : k < (lineAt ls i).size) : (nx ls back i k).length ≤ tz ls := by
  have h1 := congrArg List.length (Cs_at hi hk)
  have h2 := Cs_length ls
  rw [List.length_append, List.length_cons] at h1
  unfold nx
  split
  · rw [List.length_reverse]; omega
  · omega
/-- What stands between the rounds. -/
structure Ot (w wr : World) (G : Nat) (x y : Int) : Prop where
  res : PosAt wr (w.heap.size + 1) 0 0
  pos : PosAt wr G x y
  below : Below w.heap.size w wr
  g : w.heap.size + 2 ≤ G
theorem Ot.on {w W W' : World} {G : Nat} {x y : Int} (h : Ot w W G x y) (hb : Below W.heap.size W W') : Ot w W' G x y :=
  ⟨h.res.below hb h.res.lt, h.pos.below hb h.pos.lt, h.below.trans (hb.mono h.below.size), h.g⟩
theorem Ot.ret {w W : World} {G : Nat} {x y : Int} (h : Ot w W G x y) (a b : Int) : PosAt ((W.setCell ⟨w.heap.size + 1, 0, none⟩ (.int .i64 a)).setCell ⟨w.heap.size + 1, 1, none⟩ (.int .i64 b)) (w.heap.size + 1) a b ∧
    Below w.heap.size w ((W.setCell ⟨w.heap.size + 1, 0, none⟩ (.int .i64 a)).setCell ⟨w.heap.size + 1, 1, none⟩ (.int .i64 b)) :=
  ⟨So.set2 h.res, (h.below.setCell (p := ⟨w.heap.size + 1, 0, none⟩) (by simp) _).setCell (p := ⟨w.heap.size + 1, 1, none⟩) (by simp) _⟩
theorem Ot.next {w W : World} {G : Nat} {x y : Int} (h : Ot w W G x y) (a b : Int) : Ot w (W.alloc (.cells #[.int .i64 a, .int .i64 b] 24)) W.heap.size a b :=
  ⟨(h.on ((Below.refl _ W).alloc (Nat.le_refl _) _)).res, PosAt.new W a b, (h.on ((Below.refl _ W).alloc (Nat.le_refl _) _)).below, by have := h.res.lt; omega⟩
theorem Ot.set {w W : World} {G : Nat} {x y : Int} (h : Ot w W G x y) (a b : Int) : Ot w ((W.setCell ⟨G, 0, none⟩ (.int .i64 a)).setCell ⟨G, 1, none⟩ (.int .i64 b)) G a b :=
  ⟨(h.res.other (by have := h.g; omega)).other (by have := h.g; omega), So.set2 h.pos, (h.below.setCell (p := ⟨G, 0, none⟩) (by have := h.g; simp; omega) _).setCell (p := ⟨G, 1, none⟩) (by have := h.g; simp; omega) _, h.g⟩

set_option maxHeartbeats 16000000 in
theorem other_fw (a : Option Addr) (n c' : Nat) (ls : List ByteArray) (i k b : Nat) (w : World) (h : Ss w a n c' ls) (hs : ∀ s ∈ ls, s.size ≤ 140737488355328) (hn6 : n ≤ 1000000) (htz : tz ls ≤ 900000) (hi : i < n) (hk : k < (lineAt ls i).size) (hb : ((lineAt ls i)[k]'hk).toNat = b) (hI : kI b = true) :
    Calls Try.prog 28 #[.slice a n c', .agg #[.int .i64 i, .int .i64 k]] w fun e w' => e = .returned (nthU (oV (fwI (kO b) (kS b) 0 (((i, k), (lineAt ls i)[k]'hk) :: nx ls (!kB b) i k)))) ∧ Below w.heap.size w w' := by
  have hlen := h.length
  have hn := h.le63
  obtain ⟨V, hV⟩ : ∃ V, V = fwI (kO b) (kS b) 0 (((i, k), (lineAt ls i)[k]'hk) :: nx ls (!kB b) i k) := ⟨_, rfl⟩
  rw [← hV]
  obtain ⟨o, ho⟩ : ∃ o, o = kO b := ⟨_, rfl⟩
  obtain ⟨s, hss⟩ : ∃ s, s = kS b := ⟨_, rfl⟩
  obtain ⟨op, hop⟩ : ∃ op, op = kB b := ⟨_, rfl⟩
  obtain ⟨bk, hbk⟩ : ∃ bk, bk = !op := ⟨_, rfl⟩
  have hne : o ≠ s := by rw [ho, hss]; exact (kI_facts hI).1
  rw [← ho, ← hss, ← hop, ← hbk] at hV
  have hkd : ∀ W, Calls Try.prog 25 #[.int .u8 ((lineAt ls i)[k]'hk).toNat] W fun e w' => e = .returned (.tuple #[.int .u8 o, .int .u8 s, .bool op, .bool true]) ∧ W = w' := fun W => by
    have := kind5_any b W
    unfold kV at this
    rw [← ho, ← hss, ← hop, hI] at this
    rw [hb]; exact this
  have hnl := nx_length ls bk (by omega : i < ls.length) hk
  obtain ⟨X, hX⟩ : ∃ X, X = ((w.alloc (.cells #[.int .i64 (i : Int), .int .i64 (k : Int)] 24)).alloc (.cells #[.int .i64 0, .int .i64 0] 24)) := ⟨_, rfl⟩
  have hT : Tp w X i k := by rw [hX]; exact Tp.new w i k
  obtain ⟨ab, ao, rfl, hcx, hnc, _⟩ := h.read i (by omega)
  rw [← lineAt_get (ls := ls) (k := i) (by omega)] at hcx
  have f0 := fun z : Gr X => z.cell hT.pos.c0
  have f1 := fun z : Gr X => z.cell hT.pos.c1
  have f2 := fun z : Gr X => z.cell (cell_later hT.below hcx)
  have h5 := fun z : Gr X => hkd z.W
  have HX := Lib.hid hX
  have HS := Lib.hid h
  have HSZ := Lib.hid hs
  have HV := Lib.hid hV
  have HT := Lib.hid hT
  have HBK := Lib.hid hbk
  have HNL := Lib.hid hnl
  clear hX h hs hT hcx hV hkd ho hss hop hbk hb hI hnl
  go_enter Try.func28, Try.ntmps28
  go_upto_region 1 with fail
  rw [← HX.out]
  refine wp_region_grow (by kernel_rfl) (by kernel_rfl) ?_
  repeat (go_big_quiet_step (first | (go_at_call 25; exact Calls.grow_of_same (h5 _))))
  refine wpQuiet_nil ?_
  rintro X5 ⟨⟨_, hX5⟩, rfl⟩
  have hT5 := HT.out.on hX5
  have p0 := hT5.pos.c0
  have p1 := hT5.pos.c1
  have HO := Lib.hid (⟨(hT5.on ((Below.refl _ X5).alloc (Nat.le_refl _) (.cells #[.int .i64 (i : Int), .int .i64 (k : Int)] 24))).res, PosAt.new X5 i k, (hT5.on ((Below.refl _ X5).alloc (Nat.le_refl _) _)).below, hT5.size⟩ : Ot w (X5.alloc (.cells #[.int .i64 (i : Int), .int .i64 (k : Int)] 24)) X5.heap.size i k)
  clear f0 f1 f2 h5 hX5 hT5 HT
  go_wp2
  clear p0 p1
  go_loopw [10, 11, 12] (fun u10 u11 u12 wr => ∃ (z : Int) (G : Nat) (ok : Bool), u10 = .int .i64 z ∧ u11 = .pointer (some ⟨G, 0, none⟩) ∧ u12 = .bool ok ∧ Hid ((ok = true ∧ ∃ (q c : Nat) (hc : c < (lineAt ls q).size), q < n ∧ Ot w wr G q c ∧ V = fwI o s z (((q, c), (lineAt ls q)[c]'hc) :: nx ls bk q c) ∧ z.natAbs + (nx ls bk q c).length ≤ 900000) ∨ (ok = false ∧ V = none ∧ ∃ x y : Int, Ot w wr G x y))) (fun _ u11 u12 wr => ms ls bk u11 u12 wr)
  case atStart => exact ⟨0, X5.heap.size, true, rfl, rfl, rfl, .inl ⟨rfl, i, k, hk, hi, HO.out, HV.out, by have := HNL.out; simp; omega⟩⟩
  case round =>
    clear HO HV HNL
    obtain ⟨z, G, ok, rfl, rfl, rfl, hQ⟩ := hrel
    cases ok
    · rcases hQ.out with ⟨h1, _⟩ | ⟨_, h1, x, y, hO⟩
      · cases h1
      have HN := Lib.hid h1
      have r0 := hO.res.c0
      have r1 := hO.res.c1
      have rz := fun j => frozen_of_row wr (w.heap.size + 1) j _ _ hO.res
      clear hQ h1
      go_wp2
      obtain ⟨hg, hb⟩ := hO.ret 0 0
      refine ret_ps (g := w.heap.size + 1) (x := 0) (y := 0) (ok := false) rfl rfl rfl rfl hg ?_
      exact ⟨by rw [HN.out]; rfl, hb⟩
    · obtain ⟨q, c, hc, hq, hO, hV, hzl⟩ : ∃ (q c : Nat) (hc : c < (lineAt ls q).size), q < n ∧ Ot w wr G q c ∧ V = fwI o s z (((q, c), (lineAt ls q)[c]'hc) :: nx ls bk q c) ∧ z.natAbs + (nx ls bk q c).length ≤ 900000 := by
        rcases hQ.out with ⟨_, h⟩ | ⟨h1, _⟩
        · exact h
        · cases h1
      obtain ⟨b', o', he', hcy, _, _⟩ := HS.out.read q (by omega)
      obtain ⟨rfl, rfl⟩ : b' = ab ∧ o' = ao := by
        injection he' with he'
        injection he' with h1 h2
        exact ⟨h1.symm, h2.symm⟩
      rw [← lineAt_get (ls := ls) (k := q) (by omega)] at hcy
      have f0 := fun z : Gr wr => z.cell hO.pos.c0
      have f1 := fun z : Gr wr => z.cell hO.pos.c1
      have f2 := fun z : Gr wr => z.cell (cell_later hO.below hcy)
      have hst := fun W (hW : Below w.heap.size w W) => step_any _ n c' ls q c bk W (SrcV.below HS.out hW) HSZ.out hn6 hq hc
      have HST := Lib.hid hst
      obtain ⟨B, hB⟩ : ∃ B, B = (lineAt ls q)[c]'hc := ⟨_, rfl⟩
      obtain ⟨y, hy⟩ : ∃ y, y = ((lineAt ls q)[c]'hc).toNat := ⟨_, rfl⟩
      rw [← hB] at hV
      have HB := Lib.hid (And.intro hB hy)
      have hBy : B.toNat = y := by rw [hB, hy]
      have HBY := Lib.hid hBy
      have hnxt := fun (x : Cell) (r : List Cell) (hh : nx ls bk q c = x :: r) => nx_next (by omega : q < ls.length) hc hh
      have HNX := Lib.hid hnxt
      have hmm := ms_at (ls := ls) (back := bk) hO.pos
      have HMM := Lib.hid hmm
      have HV := Lib.hid hV
      have HOt := Lib.hid hO
      have HZL := Lib.hid hzl
      clear hQ hO hV hzl hst hB hBy hnxt hmm hcy he'
      go_upto_region 6 with fail
      refine wp_region_grow (by kernel_rfl) (by kernel_rfl) ?_
      repeat go_big_quiet_step (fail)
      refine wpQuiet_nil ?_
      rintro X6 ⟨⟨_, hX6⟩, rfl⟩
      rw [← hy]
      have hO6 := HOt.out.on hX6
      have HO6 := Lib.hid hO6
      clear f0 f1 f2 hX6 hy hO6
      by_cases ho : y = o
      · have e1 : ((y : Int) == (o : Int)) = true := by rw [beq_iff_eq]; omega
        obtain ⟨z2, hz2⟩ : ∃ z2, z2 = z + 1 := ⟨_, rfl⟩
        have hwz : IntKind.i64.wrap (z + 1) = z2 := by have := HZL.out; rw [IntKind.wrap_i64]; omega
        have hVz := HV.out.trans (fwI_at (by rw [hz2]; exact nz_o (HBY.out.trans ho) : nz o s z B = z2))
        have hzb : z2.natAbs ≤ z.natAbs + 1 := by omega
        clear hz2
        have HVZ := Lib.hid hVz
        have p0 := HO6.out.pos.c0
        have p1 := HO6.out.pos.c1
        clear hVz
        by_cases hz0 : z2 = 0
        · have dz : (z2 == 0) = true := by rw [beq_iff_eq]; exact hz0
          have hr : V = some (q, c) := by rw [HVZ.out, if_pos hz0]
          have HR := Lib.hid hr
          have r0 := HO6.out.res.c0
          have r1 := HO6.out.res.c1
          have rz := fun j => frozen_of_row X6 (w.heap.size + 1) j _ _ HO6.out.res
          clear hz0 hr hzb
          go_wp2
          obtain ⟨hg, hb⟩ := HO6.out.ret q c
          refine ret_ps (g := w.heap.size + 1) (x := q) (y := c) (ok := true) rfl rfl rfl rfl hg ?_
          exact ⟨by rw [HR.out]; rfl, hb⟩
        · have dz : (z2 == 0) = false := by rw [beq_eq_false_iff_ne]; exact hz0
          have hr : V = fwI o s z2 (nx ls bk q c) := by rw [HVZ.out, if_neg hz0]
          have HR := Lib.hid hr
          have HZB := Lib.hid hzb
          have hO7 := HO6.out.next q c
          have g0 := hO7.pos.c0
          have g1 := hO7.pos.c1
          have hst := HST.out _ hO7.below
          have HO7 := Lib.hid hO7
          clear hz0 hr hzb hO7
          go_wp2_with fail
          rw [← HBK.out]
          refine hst.mono ?_
          rintro e w7 ⟨hout, hb7⟩
          have HO8 := Lib.hid (HO7.out.on hb7)
          clear hst hb7 g0 g1 p0 p1
          have g0 := HO8.out.pos.c0
          have g1 := HO8.out.pos.c1
          have gz := fun j => frozen_of_row w7 _ j _ _ HO8.out.pos
          rcases hout with ⟨⟨q', c2⟩, bb, r, hnx, rfl⟩ | ⟨hnx, x, y', rfl⟩
          · obtain ⟨m1, m2, m3, m4⟩ := HNX.out _ _ hnx
            dsimp only at m1 m2 m3 m4
            have hml : (nx ls bk q c).length = 1 + (nx ls bk q' c2).length := by rw [hnx, m4, List.length_cons]; omega
            have hVn : V = fwI o s z2 (((q', c2), (lineAt ls q')[c2]'m2) :: nx ls bk q' c2) := by
              rw [HR.out, hnx, m4]
              have : bb = (lineAt ls q')[c2]'m2 := by apply UInt8.toNat_inj.1; rw [m3, bt_at _ _ m2]
              rw [this]
            have hrel : True ∧ Hid (_ ∧ z2.natAbs + (nx ls bk q' c2).length ≤ 900000) := ⟨trivial, hVn, by have h1 := HZL.out; have h2 := HZB.out; omega⟩
            have HM := Lib.hid (And.intro m1 hml)
            have HM2 := Lib.hid m2
            clear hnx m1 m3 m4 hml hVn
            dsimp only [nthU]
            go_wp2
            go_roundw
            case rel =>
              refine ⟨z2, _, true, rfl, rfl, rfl, .inl ⟨rfl, q', c2, HM2.out, by have := HM.out.1; omega, HO8.out.set q' c2, hrel.2.out.1, hrel.2.out.2⟩⟩
            case measure =>
              rw [HMM.out, ms_at (HO8.out.set q' c2).pos]
              have := HM.out.2
              omega
          · have HN := Lib.hid (show V = none by rw [HR.out, hnx]; rfl)
            clear hnx
            go_wp2
            go_roundw
            case rel =>
              exact ⟨z2, _, false, rfl, rfl, rfl, .inr ⟨rfl, HN.out, x, y', HO8.out.set x y'⟩⟩
            case measure =>
              rw [HMM.out]
              exact Nat.lt_of_lt_of_le Nat.zero_lt_one (Nat.le_add_right _ _)
      · have e1 : ((y : Int) == (o : Int)) = false := by rw [beq_eq_false_iff_ne]; omega
        by_cases hs2 : y = s
        · have e2 : ((y : Int) == (s : Int)) = true := by rw [beq_iff_eq]; omega
          obtain ⟨z2, hz2⟩ : ∃ z2, z2 = z - 1 := ⟨_, rfl⟩
          have hwz : IntKind.i64.wrap (z - 1) = z2 := by have := HZL.out; rw [IntKind.wrap_i64]; omega
          have hVz := HV.out.trans (fwI_at (by rw [hz2]; exact nz_s (fun hh => ho (HBY.out.symm.trans hh)) (HBY.out.trans hs2) : nz o s z B = z2))
          have hzb : z2.natAbs ≤ z.natAbs + 1 := by omega
          clear hz2
          have HVZ := Lib.hid hVz
          have p0 := HO6.out.pos.c0
          have p1 := HO6.out.pos.c1
          clear hVz
          by_cases hz0 : z2 = 0
          · have dz : (z2 == 0) = true := by rw [beq_iff_eq]; exact hz0
            have hr : V = some (q, c) := by rw [HVZ.out, if_pos hz0]
            have HR := Lib.hid hr
            have r0 := HO6.out.res.c0
            have r1 := HO6.out.res.c1
            have rz := fun j => frozen_of_row X6 (w.heap.size + 1) j _ _ HO6.out.res
            clear hz0 hr hzb
            go_wp2
            obtain ⟨hg, hb⟩ := HO6.out.ret q c
            refine ret_ps (g := w.heap.size + 1) (x := q) (y := c) (ok := true) rfl rfl rfl rfl hg ?_
            exact ⟨by rw [HR.out]; rfl, hb⟩
          · have dz : (z2 == 0) = false := by rw [beq_eq_false_iff_ne]; exact hz0
            have hr : V = fwI o s z2 (nx ls bk q c) := by rw [HVZ.out, if_neg hz0]
            have HR := Lib.hid hr
            have HZB := Lib.hid hzb
            have hO7 := HO6.out.next q c
            have g0 := hO7.pos.c0
            have g1 := hO7.pos.c1
            have hst := HST.out _ hO7.below
            have HO7 := Lib.hid hO7
            clear hz0 hr hzb hO7
            go_wp2_with fail
            rw [← HBK.out]
            refine hst.mono ?_
            rintro e w7 ⟨hout, hb7⟩
            have HO8 := Lib.hid (HO7.out.on hb7)
            clear hst hb7 g0 g1 p0 p1
            have g0 := HO8.out.pos.c0
            have g1 := HO8.out.pos.c1
            have gz := fun j => frozen_of_row w7 _ j _ _ HO8.out.pos
            rcases hout with ⟨⟨q', c2⟩, bb, r, hnx, rfl⟩ | ⟨hnx, x, y', rfl⟩
            · obtain ⟨m1, m2, m3, m4⟩ := HNX.out _ _ hnx
              dsimp only at m1 m2 m3 m4
              have hml : (nx ls bk q c).length = 1 + (nx ls bk q' c2).length := by rw [hnx, m4, List.length_cons]; omega
              have hVn : V = fwI o s z2 (((q', c2), (lineAt ls q')[c2]'m2) :: nx ls bk q' c2) := by
                rw [HR.out, hnx, m4]
                have : bb = (lineAt ls q')[c2]'m2 := by apply UInt8.toNat_inj.1; rw [m3, bt_at _ _ m2]
                rw [this]
              have hrel : True ∧ Hid (_ ∧ z2.natAbs + (nx ls bk q' c2).length ≤ 900000) := ⟨trivial, hVn, by have h1 := HZL.out; have h2 := HZB.out; omega⟩
              have HM := Lib.hid (And.intro m1 hml)
              have HM2 := Lib.hid m2
              clear hnx m1 m3 m4 hml hVn
              dsimp only [nthU]
              go_wp2
              go_roundw
              case rel =>
                refine ⟨z2, _, true, rfl, rfl, rfl, .inl ⟨rfl, q', c2, HM2.out, by have := HM.out.1; omega, HO8.out.set q' c2, hrel.2.out.1, hrel.2.out.2⟩⟩
              case measure =>
                rw [HMM.out, ms_at (HO8.out.set q' c2).pos]
                have := HM.out.2
                omega
            · have HN := Lib.hid (show V = none by rw [HR.out, hnx]; rfl)
              clear hnx
              go_wp2
              go_roundw
              case rel =>
                exact ⟨z2, _, false, rfl, rfl, rfl, .inr ⟨rfl, HN.out, x, y', HO8.out.set x y'⟩⟩
              case measure =>
                rw [HMM.out]
                exact Nat.lt_of_lt_of_le Nat.zero_lt_one (Nat.le_add_right _ _)
        · have e2 : ((y : Int) == (s : Int)) = false := by rw [beq_eq_false_iff_ne]; omega
          obtain ⟨z2, hz2⟩ : ∃ z2, z2 = z := ⟨_, rfl⟩
          have hVz := HV.out.trans (fwI_at (by rw [hz2]; exact nz_n (fun hh => ho (HBY.out.symm.trans hh)) (fun hh => hs2 (HBY.out.symm.trans hh)) : nz o s z B = z2))
          have hzb : z2.natAbs ≤ z.natAbs + 1 := by omega
          obtain rfl : z2 = z := hz2
          have HVZ := Lib.hid hVz
          have p0 := HO6.out.pos.c0
          have p1 := HO6.out.pos.c1
          clear hVz
          by_cases hz0 : z2 = 0
          · have dz : (z2 == 0) = true := by rw [beq_iff_eq]; exact hz0
            have hr : V = some (q, c) := by rw [HVZ.out, if_pos hz0]
            have HR := Lib.hid hr
            have r0 := HO6.out.res.c0
            have r1 := HO6.out.res.c1
            have rz := fun j => frozen_of_row X6 (w.heap.size + 1) j _ _ HO6.out.res
            clear hz0 hr hzb
            go_wp2
            obtain ⟨hg, hb⟩ := HO6.out.ret q c
            refine ret_ps (g := w.heap.size + 1) (x := q) (y := c) (ok := true) rfl rfl rfl rfl hg ?_
            exact ⟨by rw [HR.out]; rfl, hb⟩
          · have dz : (z2 == 0) = false := by rw [beq_eq_false_iff_ne]; exact hz0
            have hr : V = fwI o s z2 (nx ls bk q c) := by rw [HVZ.out, if_neg hz0]
            have HR := Lib.hid hr
            have HZB := Lib.hid hzb
            have hO7 := HO6.out.next q c
            have g0 := hO7.pos.c0
            have g1 := hO7.pos.c1
            have hst := HST.out _ hO7.below
            have HO7 := Lib.hid hO7
            clear hz0 hr hzb hO7
            go_wp2_with fail
            rw [← HBK.out]
            refine hst.mono ?_
            rintro e w7 ⟨hout, hb7⟩
            have HO8 := Lib.hid (HO7.out.on hb7)
            clear hst hb7 g0 g1 p0 p1
            have g0 := HO8.out.pos.c0
            have g1 := HO8.out.pos.c1
            have gz := fun j => frozen_of_row w7 _ j _ _ HO8.out.pos
            rcases hout with ⟨⟨q', c2⟩, bb, r, hnx, rfl⟩ | ⟨hnx, x, y', rfl⟩
            · obtain ⟨m1, m2, m3, m4⟩ := HNX.out _ _ hnx
              dsimp only at m1 m2 m3 m4
              have hml : (nx ls bk q c).length = 1 + (nx ls bk q' c2).length := by rw [hnx, m4, List.length_cons]; omega
              have hVn : V = fwI o s z2 (((q', c2), (lineAt ls q')[c2]'m2) :: nx ls bk q' c2) := by
                rw [HR.out, hnx, m4]
                have : bb = (lineAt ls q')[c2]'m2 := by apply UInt8.toNat_inj.1; rw [m3, bt_at _ _ m2]
                rw [this]
              have hrel : True ∧ Hid (_ ∧ z2.natAbs + (nx ls bk q' c2).length ≤ 900000) := ⟨trivial, hVn, by have h1 := HZL.out; have h2 := HZB.out; omega⟩
              have HM := Lib.hid (And.intro m1 hml)
              have HM2 := Lib.hid m2
              clear hnx m1 m3 m4 hml hVn
              dsimp only [nthU]
              go_wp2
              go_roundw
              case rel =>
                refine ⟨z2, _, true, rfl, rfl, rfl, .inl ⟨rfl, q', c2, HM2.out, by have := HM.out.1; omega, HO8.out.set q' c2, hrel.2.out.1, hrel.2.out.2⟩⟩
              case measure =>
                rw [HMM.out, ms_at (HO8.out.set q' c2).pos]
                have := HM.out.2
                omega
            · have HN := Lib.hid (show V = none by rw [HR.out, hnx]; rfl)
              clear hnx
              go_wp2
              go_roundw
              case rel =>
                exact ⟨z2, _, false, rfl, rfl, rfl, .inr ⟨rfl, HN.out, x, y', HO8.out.set x y'⟩⟩
              case measure =>
                rw [HMM.out]
                exact Nat.lt_of_lt_of_le Nat.zero_lt_one (Nat.le_add_right _ _)

theorem other_any (a : Option Addr) (n c' : Nat) (ls : List ByteArray) (i k : Nat) (w : World) (h : Ss w a n c' ls) (hs : ∀ s ∈ ls, s.size ≤ 140737488355328) (hn6 : n ≤ 1000000) (htz : tz ls ≤ 900000) (hi : i < n) (hk : k < (lineAt ls i).size) (hI : kI (bt (lineAt ls i) k) = true) :
    Calls Try.prog 28 #[.slice a n c', .agg #[.int .i64 i, .int .i64 k]] w fun e w' => e = .returned (nthU (oV (ptn (i, k) (P ls (bt (lineAt ls i) k))))) ∧ Below w.heap.size w w' := by
  have hlen := h.length
  have := other_fw a n c' ls i k (bt (lineAt ls i) k) w h hs hn6 htz hi hk (bt_at _ _ hk) hI
  rw [other_ptn (by omega) hk rfl hI] at this
  exact this
end Go.Proofs.Ytbimblfkkmpieaa.Pr
