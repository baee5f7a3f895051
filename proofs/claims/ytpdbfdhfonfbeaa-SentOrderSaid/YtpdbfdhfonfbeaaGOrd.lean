/-
  The law SentOrder, walked.
-/
import Derived.Test.YtpdbfdhfonfbeaaGk
import Derived.Test.YtpdbfdhfonfbeaaGd
set_option linter.unusedVariables false
set_option linter.unusedSimpArgs false
set_option maxRecDepth 100000
namespace Go.Proofs.Ytpdbfdhfonfbeaa.GOrd
open Go Go.RowKit Go.Proofs.Ytpdbfdhfonfbeaa.Vk Go.Proofs.Ytpdbfdhfonfbeaa.Str Go.Proofs.Ytpdbfdhfonfbeaa.Ln Go.Proofs.Ytpdbfdhfonfbeaa.Cl Go.Proofs.Ytpdbfdhfonfbeaa.Mv Go.Proofs.Ytpdbfdhfonfbeaa.Wd Go.Proofs.Ytpdbfdhfonfbeaa.Pa
attribute [local go_sem] Oper.semAt_some
set_option maxHeartbeats 4000000

theorem bw_opt {b b' o o' : Nat} (h : (some ⟨b, o, none⟩ : Option Addr) = some ⟨b', o', none⟩) : b' = b ∧ o' = o := by
  injection h with h
  injection h with h1 h2
  exact ⟨h1.symm, h2.symm⟩
theorem at_line {w : World} {b o n c : Nat} {ls : List ByteArray} (h : Ss w (some ⟨b, o, none⟩) n c ls) {j : Nat} (hj : j < ls.length) : w.cell? ⟨b, o + j, none⟩ = some (.string (lineAt ls j)) := by
  obtain ⟨b', o', he, hc, _⟩ := h.read j hj
  obtain ⟨rfl, rfl⟩ := bw_opt he
  rw [lineAt_get hj]
  exact hc
theorem sorted_at {l : List P2} (h : l.Pairwise fun a b => lp a b = true) {i j : Nat} (hi : i < j) (hj : j < l.length) : lp (l[i]'(by omega)) l[j] = true := List.pairwise_iff_getElem.1 h i j (by omega) hj hi
theorem lp_anti {a b : P2} (h : lp a b = true) : lp b a = false := by
  rw [lp_iff] at h
  exact lp_false.2 (by omega)
theorem aft_at {l : List P2} (h : l.Pairwise fun a b => lp a b = true) {i : Nat} (hi : i < l.length) : aft l l[i] = l.drop (i + 1) := by
  have e : l = l.take i ++ l[i] :: l.drop (i + 1) := by rw [← List.drop_eq_getElem_cons hi, List.take_append_drop]
  have hs := h
  rw [e] at hs
  obtain ⟨h1, h2, h3⟩ := List.pairwise_append.1 hs
  have key : ∀ m x, m = l.take i ++ x :: l.drop (i + 1) → x = l[i] → m.filter (fun q => lp x q) = l.drop (i + 1) := by
    intro m x hm hx
    subst hm
    have a1 : (l.take i).filter (fun q => lp x q) = [] := List.filter_eq_nil_iff.2 (fun a ha => by rw [hx, lp_anti (h3 a ha _ List.mem_cons_self)]; decide)
    have a2 : (x :: l.drop (i + 1)).filter (fun q => lp x q) = l.drop (i + 1) := by
      rw [List.filter_cons_of_neg (by rw [lp_irr]; simp)]
      exact List.filter_eq_self.2 (fun a ha => by rw [hx]; exact (List.pairwise_cons.1 h2).1 a ha)
    rw [List.filter_append, a1, a2]
    rfl
  exact key l l[i] e rfl
theorem bef_at {l : List P2} (h : l.Pairwise fun a b => lp a b = true) {i : Nat} (hi : i < l.length) : bef l l[i] = l.take i := by
  have e : l = l.take i ++ l[i] :: l.drop (i + 1) := by rw [← List.drop_eq_getElem_cons hi, List.take_append_drop]
  refine bef_stop h e ?_ (lp_irr _)
  intro q hq
  obtain ⟨k, hk, rfl⟩ := List.getElem_of_mem hq
  rw [List.length_take] at hk
  rw [List.getElem_take]
  exact sorted_at h (by omega) hi
theorem plc_of {ls : List ByteArray} {p : P2} (h1 : p.1 < ls.length) (h2 : p.2 ≤ (lineAt ls p.1).size) : Plc ls (p.1 : Int) (p.2 : Int) := (plc_nat h1).2 h2
theorem sn_next {ls : List ByteArray} {j : Nat} (hj : j + 1 < (sen ls).length) {p t : P2} (hp : p = (sen ls)[j]'(by omega)) (ht : t = (sen ls)[j + 1]) : snR ls p.1 p.2 1 false = ⟨t.1, t.2, 0, true, -1, true⟩ := by
  have hm := sen_mem (ls := ls) (x := p) (by rw [hp]; exact List.getElem_mem _)
  have e : snR ls p.1 p.2 1 false = jmp (snV ls false p (aft (sen ls) p) 1) := ifm_yes (m := 1) (plc_of hm.1 hm.2) (by omega)
  rw [e, hp, aft_at (sen_sorted ls), snV_yes (k := 1) (x := t) (pre := []) (rest := (sen ls).drop (j + 1 + 1)) (by rw [List.drop_eq_getElem_cons hj, ← ht]; rfl) rfl]; rfl
theorem sn_last {ls : List ByteArray} {j : Nat} (hj : j < (sen ls).length) (hj1 : ¬ j + 1 < (sen ls).length) {p : P2} (hp : p = (sen ls)[j]'(by omega)) : snR ls p.1 p.2 1 false = R.no := by
  have hm := sen_mem (ls := ls) (x := p) (by rw [hp]; exact List.getElem_mem _)
  have e : snR ls p.1 p.2 1 false = jmp (snV ls false p (aft (sen ls) p) 1) := ifm_yes (m := 1) (plc_of hm.1 hm.2) (by omega)
  rw [e, hp, aft_at (sen_sorted ls), snV_no (by rw [List.length_drop]; omega) (fun hh => by cases hh.2.1)]; rfl
theorem sb_back {ls : List ByteArray} {j : Nat} (hj : j < (sen ls).length) (h0 : 0 < j) {p t : P2} (hp : p = (sen ls)[j]) (ht : t = (sen ls)[j - 1]'(by omega)) : sbR ls p.1 p.2 1 = ⟨t.1, t.2, 0, true, -1, true⟩ := by
  have hm := sen_mem (ls := ls) (x := p) (by rw [hp]; exact List.getElem_mem _)
  have e : sbR ls p.1 p.2 1 = jmp (nthV (bef (sen ls) p).reverse 1) := ifm_yes (m := 1) (plc_of hm.1 hm.2) (by omega)
  rw [e, hp, bef_at (sen_sorted ls), rev_at (by omega) (by rw [List.length_take]; omega)]
  rw [show jmp (((List.take j (sen ls))[(List.take j (sen ls)).length - 1]'(by rw [List.length_take]; omega)), true) = jmp (t, true) by
    congr 2
    rw [ht, List.getElem_take]
    congr 1
    rw [List.length_take]; omega]
  rfl
theorem sb_first {ls : List ByteArray} {j : Nat} (hj : j < (sen ls).length) (h0 : ¬ 0 < j) {p : P2} (hp : p = (sen ls)[j]) : sbR ls p.1 p.2 1 = R.no := by
  obtain rfl : j = 0 := by omega
  have hm := sen_mem (ls := ls) (x := p) (by rw [hp]; exact List.getElem_mem _)
  have e : sbR ls p.1 p.2 1 = jmp (nthV (bef (sen ls) p).reverse 1) := ifm_yes (m := 1) (plc_of hm.1 hm.2) (by omega)
  rw [e, hp, bef_at (sen_sorted ls), rev_no (by simp)]; rfl
theorem sn_end {ls : List ByteArray} {j M : Nat} (hj : j < (sen ls).length) (hM : M = (sen ls).length - j) {p : P2} (hp : p = (sen ls)[j]) : snR ls p.1 p.2 M true = if lp p (lastP ls true) = true then ⟨(lastP ls true).1, (lastP ls true).2, 0, true, -1, true⟩ else R.no := by
  have hm := sen_mem (ls := ls) (x := p) (by rw [hp]; exact List.getElem_mem _)
  have e : snR ls p.1 p.2 M true = jmp (snV ls true p (aft (sen ls) p) M) := ifm_yes (m := M) (plc_of hm.1 hm.2) (by omega)
  have ha : aft (sen ls) p = (sen ls).drop (j + 1) := by rw [hp]; exact aft_at (sen_sorted ls) hj
  rw [e, ha]
  by_cases hl : lp p (lastP ls true) = true
  · rw [if_pos hl, snV_end (by rw [List.length_drop]; omega) rfl hl]; rfl
  · rw [if_neg hl, snV_no (by rw [List.length_drop]; omega) (fun hh => hl hh.2.2)]; rfl

theorem walk (a : Option Addr) (n c' : Nat) (ls : List ByteArray) (w : World) (h : Ss w a n c' ls) (hs : ∀ s ∈ ls, s.size ≤ 140737488355328) :
    Calls Try.prog 7 #[.slice a n c'] w fun e w' => e = .returned (.bool true) ∧ Below w.heap.size w w' := by
  have hk := known_any w
  go_enter Try.func7, Try.ntmps7
  go_wp2_with fail
  refine hk.mono ?_
  rintro e w1 ⟨rfl, hb1⟩
  have htx := text_any a n c' ls w1 (SrcV.below h hb1) hs
  have HS1 := Lib.hid (SrcV.below h hb1)
  have HB1 := Lib.hid hb1
  clear hk hb1 h
  go_wp2_with fail
  refine htx.mono ?_
  rintro e w' ⟨qq, rfl, rfl, hq⟩
  clear htx
  cases qq
  · clear hq
    go_wp2
    go_ret
    exact ⟨rfl, HB1.out⟩
  obtain ⟨hn0, hn40, hz, _⟩ := hq rfl
  clear hq
  have hlen := Ss.length HS1.out
  obtain ⟨bs, os, ha, _⟩ := Ss.read HS1.out 0 (by omega)
  subst ha
  have lS : (sen ls).length ≤ 1240 := Nat.le_trans (sen_tz _) hz
  have D := Lib.hid (Below.refl w1.heap.size w1)
  have hdo := sentences5_any _ n c' ls w1 (SrcV.below HS1.out D.out) hs (by omega)
  go_wp2_with fail
  refine (hdo).mono ?_
  rintro e w2 ⟨bW, N, cW, rfl, hp, hb⟩
  have D := Lib.hid (below_on D.out hb)
  clear hb hdo
  have PW := Lib.hid hp
  have lW := PW.out.length
  clear hp
  obtain ⟨kk, hkk⟩ : ∃ kk, kk = n - 1 := ⟨_, rfl⟩
  have hwk : IntKind.i64.wrap ((n : Int) - 1) = (kk : Int) := by rw [IntKind.wrap_i64]; omega
  have hkn : kk < n := by omega
  obtain ⟨te, hte⟩ : ∃ te, lastP ls true = te := ⟨_, rfl⟩
  have hte1 : te.1 = kk := by rw [← hte]; show ls.length - 1 = kk; omega
  have hte2 : te.2 = (lineAt ls kk).size := by
    rw [← hte]
    show (lineAt ls (ls.length - 1)).size = _
    rw [show ls.length - 1 = kk by omega]
  have HC := Lib.hid (at_line HS1.out (j := kk) (by omega))
  have HTE := Lib.hid (And.intro hte (And.intro hte1 hte2))
  have hNb : N ≤ 1240 := by omega
  have LW := Lib.hid lW
  clear hkk hte hte1 hte2 lW lS
  go_wp2
  go_loopw [4] (fun i ws => ∃ j : Nat, j ≤ N ∧ i = .int .i64 j ∧ Hid (Below w2.heap.size w2 ws)) (fun i _ => N - (RowKit.intOf i).toNat)
  case atStart => exact ⟨0, by omega, rfl, Below.refl _ _⟩
  case round =>
    obtain ⟨j, hjn, rfl, T⟩ := hrel
    by_cases hj : j < N
    rotate_left
    · obtain rfl : j = N := by omega
      go_wp2
      go_ret
      exact ⟨rfl, below_on HB1.out (below_on D.out T.out)⟩
    have D := Lib.hid (below_on D.out T.out)
    obtain ⟨bb, oo, rfl, x0, x1, hnc⟩ := PW.out.read j (by have := LW.out; omega)
    obtain ⟨p, hp⟩ : ∃ p : P2, p = (sen ls)[j]'(by have := LW.out; omega) := ⟨_, rfl⟩
    rw [← hp] at x0 x1
    obtain ⟨M, hM⟩ : ∃ M, M = N - j := ⟨_, rfl⟩
    have hwM : IntKind.i64.wrap ((N : Int) - j) = (M : Int) := by rw [IntKind.wrap_i64]; omega
    obtain ⟨j1, hj1⟩ : ∃ j1, j1 = j + 1 := ⟨_, rfl⟩
    have hwj1 : IntKind.i64.wrap ((j : Int) + 1) = (j1 : Int) := by rw [IntKind.wrap_i64]; omega
    have c1 := fun W (hW : Below w1.heap.size w1 W) => snext_any _ n c' ls p.1 p.2 1 false W (SrcV.below HS1.out hW) hs (by omega) (by omega) (by omega)
    have c2 := fun W (hW : Below w1.heap.size w1 W) => sback_any _ n c' ls p.1 p.2 1 W (SrcV.below HS1.out hW) hs (by omega) (by omega) (by omega)
    have c3 := fun W (hW : Below w1.heap.size w1 W) => snext_any _ n c' ls p.1 p.2 M true W (SrcV.below HS1.out hW) hs (by omega) (by omega) (by omega)
    rw [sn_end (by have := LW.out; omega) (by have := LW.out; omega) hp, HTE.out.1] at c3
    have HX0 := Lib.hid (And.intro x0 x1)
    clear x0 x1 hM
    by_cases h1 : j + 1 < N
    · by_cases h2 : 0 < j
      · obtain ⟨q, hq⟩ : ∃ q : P2, q = (sen ls)[j + 1]'(by have := LW.out; omega) := ⟨_, rfl⟩
        obtain ⟨b', o', he', y0, y1, _⟩ := PW.out.read (j + 1) (by have := LW.out; omega)
        obtain ⟨rfl, rfl⟩ := bw_opt he'
        rw [← hq, ← hj1] at y0 y1
        have hj1n : j1 < N := by omega
        have d1 : decide ((j1 : Int) < (N : Int)) = true := decide_eq_true (by omega)
        have d2 : decide (j1 < N) = true := decide_eq_true hj1n
        rw [sn_next (by have := LW.out; omega) hp hq] at c1
        have HY := Lib.hid (And.intro y0 y1)
        have hneq := fun W => ne_pos q.1 q.2 W
        clear y0 y1 he' hq
        obtain ⟨r, hr⟩ : ∃ r : P2, r = (sen ls)[j - 1]'(by have := LW.out; omega) := ⟨_, rfl⟩
        obtain ⟨b', o', he', y0, y1, _⟩ := PW.out.read (j - 1) (by have := LW.out; omega)
        obtain ⟨rfl, rfl⟩ := bw_opt he'
        obtain ⟨m1, hm1⟩ : ∃ m1, m1 = j - 1 := ⟨_, rfl⟩
        rw [← hr, ← hm1] at y0 y1
        have hwm1 : IntKind.i64.wrap ((j : Int) - 1) = (m1 : Int) := by rw [IntKind.wrap_i64]; omega
        have hm1n : m1 < N := by omega
        have d3 : decide ((0 : Int) < (j : Int)) = true := decide_eq_true (by omega)
        have d4 : decide (0 < j) = true := decide_eq_true h2
        rw [sb_back (by have := LW.out; omega) h2 hp hr] at c2
        have HZ := Lib.hid (And.intro y0 y1)
        have hner := fun W => ne_pos r.1 r.2 W
        clear y0 y1 he' hr hm1
        have HP := Lib.hid (And.intro hp hj1)
        clear h1 h2 hp hj1
        have p0 := cell_later T.out HX0.out.1
        have p1 := cell_later T.out HX0.out.2
        go_wp2_with fail
        refine (c1 _ D.out).mono ?_
        rintro e v1 ⟨rfl, hb⟩
        clear p0 p1
        have D := Lib.hid (below_on D.out hb)
        have T := Lib.hid (below_on T.out hb)
        clear hb c1
        go_upto_region 10 with fail
        obtain ⟨y1, hy1⟩ : ∃ y1, y1 = v1.alloc (.cells #[.int .i64 (q.1 : Int), .int .i64 (q.2 : Int), .int .i64 0, .bool true, .int .i64 (-1)] 32) := ⟨_, rfl⟩
        have hA : Below v1.heap.size v1 y1 := by rw [hy1]; exact (Below.refl _ v1).alloc (Nat.le_refl _) _
        have hV := MvAt.new v1 (q.1 : Int) (q.2 : Int) 0 (-1) true
        rw [← hy1] at hV ⊢
        have gg_D := D.out.size
        have gg_T := T.out.size
        have D := Lib.hid (below_on D.out hA)
        have T := Lib.hid (below_on T.out hA)
        obtain ⟨b_V, hbf⟩ : ∃ b, b = v1.heap.size := ⟨_, rfl⟩
        rw [← hbf] at hV ⊢
        have g_V_D := Lib.hid (show w1.heap.size ≤ b_V by rw [hbf]; exact gg_D)
        clear gg_D
        have g_V_T := Lib.hid (show w2.heap.size ≤ b_V by rw [hbf]; exact gg_T)
        clear gg_T
        have V := Lib.hid hV
        clear hV hA hy1 hbf
        have c_V := V.out
        have V0 := c_V.c0
        have V1 := c_V.c1
        have V2 := c_V.c2
        have V3 := c_V.c3
        have V4 := c_V.c4
        clear c_V
        have p0 := cell_later T.out HX0.out.1
        have p1 := cell_later T.out HX0.out.2
        go_wp2_with fail
        refine (c2 _ D.out).mono ?_
        rintro e v2 ⟨rfl, hb⟩
        clear V0 V1 V2 V3 V4 p0 p1
        have D := Lib.hid (below_on D.out hb)
        have T := Lib.hid (below_on T.out hb)
        have V := Lib.hid (V.out.below hb V.out.lt)
        clear hb c2
        go_upto_region 11 with fail
        obtain ⟨y2, hy2⟩ : ∃ y2, y2 = v2.alloc (.cells #[.int .i64 (r.1 : Int), .int .i64 (r.2 : Int), .int .i64 0, .bool true, .int .i64 (-1)] 32) := ⟨_, rfl⟩
        have hA : Below v2.heap.size v2 y2 := by rw [hy2]; exact (Below.refl _ v2).alloc (Nat.le_refl _) _
        have hV := MvAt.new v2 (r.1 : Int) (r.2 : Int) 0 (-1) true
        rw [← hy2] at hV ⊢
        have lt_V := V.out.lt
        have gg_D := D.out.size
        have gg_T := T.out.size
        have D := Lib.hid (below_on D.out hA)
        have T := Lib.hid (below_on T.out hA)
        have V := Lib.hid (V.out.below hA V.out.lt)
        obtain ⟨b_U, hbf⟩ : ∃ b, b = v2.heap.size := ⟨_, rfl⟩
        rw [← hbf] at hV ⊢
        have n_V_U := Lib.hid (show b_V ≠ b_U by omega)
        clear lt_V
        have g_U_D := Lib.hid (show w1.heap.size ≤ b_U by rw [hbf]; exact gg_D)
        clear gg_D
        have g_U_T := Lib.hid (show w2.heap.size ≤ b_U by rw [hbf]; exact gg_T)
        clear gg_T
        have U := Lib.hid hV
        clear hV hA hy2 hbf
        have c_V := V.out
        have V0 := c_V.c0
        have V1 := c_V.c1
        have V2 := c_V.c2
        have V3 := c_V.c3
        have V4 := c_V.c4
        clear c_V
        have c_U := U.out
        have U0 := c_U.c0
        have U1 := c_U.c1
        have U2 := c_U.c2
        have U3 := c_U.c3
        have U4 := c_U.c4
        clear c_U
        have s0 := cell_later T.out HY.out.1
        have s1 := cell_later T.out HY.out.2
        have r0 := cell_later T.out HZ.out.1
        have r1 := cell_later T.out HZ.out.2
        have f_V0 := fun z : Gr y2 => z.cell V0
        have f_V1 := fun z : Gr y2 => z.cell V1
        have f_V2 := fun z : Gr y2 => z.cell V2
        have f_V3 := fun z : Gr y2 => z.cell V3
        have f_V4 := fun z : Gr y2 => z.cell V4
        have f_U0 := fun z : Gr y2 => z.cell U0
        have f_U1 := fun z : Gr y2 => z.cell U1
        have f_U2 := fun z : Gr y2 => z.cell U2
        have f_U3 := fun z : Gr y2 => z.cell U3
        have f_U4 := fun z : Gr y2 => z.cell U4
        have f_s0 := fun z : Gr y2 => z.cell s0
        have f_s1 := fun z : Gr y2 => z.cell s1
        have f_r0 := fun z : Gr y2 => z.cell r0
        have f_r1 := fun z : Gr y2 => z.cell r1
        clear V0 V1 V2 V3 V4 U0 U1 U2 U3 U4 s0 s1 r0 r1
        refine wp_region_grow (by kernel_rfl) (by kernel_rfl) ?_
        repeat (go_big_quiet_step (fail))
        refine wpQuiet_nil ?_
        rintro w7 ⟨⟨_, hb_w7⟩, rfl⟩
        have D := Lib.hid (below_on D.out hb_w7)
        have T := Lib.hid (below_on T.out hb_w7)
        have V := Lib.hid (V.out.below hb_w7 V.out.lt)
        have U := Lib.hid (U.out.below hb_w7 U.out.lt)
        clear hb_w7 f_V0 f_V1 f_V2 f_V3 f_V4 f_U0 f_U1 f_U2 f_U3 f_U4 f_s0 f_s1 f_r0 f_r1 d1 d2 d3 d4 hneq hner
        have p0 := cell_later T.out HX0.out.1
        have p1 := cell_later T.out HX0.out.2
        by_cases h3 : lp p te = true
        · rw [if_pos h3] at c3
          clear h3
          go_wp2_with fail
          refine (c3 _ D.out).mono ?_
          rintro e v3 ⟨rfl, hb⟩
          clear p0 p1
          have D := Lib.hid (below_on D.out hb)
          have T := Lib.hid (below_on T.out hb)
          have V := Lib.hid (V.out.below hb V.out.lt)
          have U := Lib.hid (U.out.below hb U.out.lt)
          clear hb c3
          go_upto_region 14 with fail
          obtain ⟨y3, hy3⟩ : ∃ y3, y3 = v3.alloc (.cells #[.int .i64 (te.1 : Int), .int .i64 (te.2 : Int), .int .i64 0, .bool true, .int .i64 (-1)] 32) := ⟨_, rfl⟩
          have hA : Below v3.heap.size v3 y3 := by rw [hy3]; exact (Below.refl _ v3).alloc (Nat.le_refl _) _
          have hV := MvAt.new v3 (te.1 : Int) (te.2 : Int) 0 (-1) true
          rw [← hy3] at hV ⊢
          have lt_V := V.out.lt
          have lt_U := U.out.lt
          have gg_D := D.out.size
          have gg_T := T.out.size
          have D := Lib.hid (below_on D.out hA)
          have T := Lib.hid (below_on T.out hA)
          have V := Lib.hid (V.out.below hA V.out.lt)
          have U := Lib.hid (U.out.below hA U.out.lt)
          obtain ⟨b_Z, hbf⟩ : ∃ b, b = v3.heap.size := ⟨_, rfl⟩
          rw [← hbf] at hV ⊢
          have n_V_Z := Lib.hid (show b_V ≠ b_Z by omega)
          clear lt_V
          have n_U_Z := Lib.hid (show b_U ≠ b_Z by omega)
          clear lt_U
          have g_Z_D := Lib.hid (show w1.heap.size ≤ b_Z by rw [hbf]; exact gg_D)
          clear gg_D
          have g_Z_T := Lib.hid (show w2.heap.size ≤ b_Z by rw [hbf]; exact gg_T)
          clear gg_T
          have Z := Lib.hid hV
          clear hV hA hy3 hbf
          have c_V := V.out
          have V0 := c_V.c0
          have V1 := c_V.c1
          have V2 := c_V.c2
          have V3 := c_V.c3
          have V4 := c_V.c4
          clear c_V
          have c_U := U.out
          have U0 := c_U.c0
          have U1 := c_U.c1
          have U2 := c_U.c2
          have U3 := c_U.c3
          have U4 := c_U.c4
          clear c_U
          have c_Z := Z.out
          have Z0 := c_Z.c0
          have Z1 := c_Z.c1
          have Z2 := c_Z.c2
          have Z3 := c_Z.c3
          have Z4 := c_Z.c4
          clear c_Z
          go_upto_region 16 with fail
          have hl := cell_later D.out HC.out
          obtain ⟨-, e1, e2⟩ := HTE.out
          have hnz : ∀ W, (binOp .neq 24 (.agg #[.int .i64 te.1, .int .i64 te.2]) (.agg #[.int .i64 kk, .int .i64 ((lineAt ls kk).size : Nat)])).run Try.prog W = .ok (.bool false) W := fun W => by rw [← e2, ← e1]; exact ne_pos te.1 te.2 W
          clear e1 e2
          have f_V0 := fun z : Gr y3 => z.cell V0
          have f_V1 := fun z : Gr y3 => z.cell V1
          have f_V2 := fun z : Gr y3 => z.cell V2
          have f_V3 := fun z : Gr y3 => z.cell V3
          have f_V4 := fun z : Gr y3 => z.cell V4
          have f_U0 := fun z : Gr y3 => z.cell U0
          have f_U1 := fun z : Gr y3 => z.cell U1
          have f_U2 := fun z : Gr y3 => z.cell U2
          have f_U3 := fun z : Gr y3 => z.cell U3
          have f_U4 := fun z : Gr y3 => z.cell U4
          have f_Z0 := fun z : Gr y3 => z.cell Z0
          have f_Z1 := fun z : Gr y3 => z.cell Z1
          have f_Z2 := fun z : Gr y3 => z.cell Z2
          have f_Z3 := fun z : Gr y3 => z.cell Z3
          have f_Z4 := fun z : Gr y3 => z.cell Z4
          have f_hl := fun z : Gr y3 => z.cell hl
          clear V0 V1 V2 V3 V4 U0 U1 U2 U3 U4 Z0 Z1 Z2 Z3 Z4 hl
          refine wp_region_grow (by kernel_rfl) (by kernel_rfl) ?_
          repeat (go_big_quiet_step (fail))
          refine wpQuiet_nil ?_
          rintro w8 ⟨⟨_, hb_w8⟩, rfl⟩
          have D := Lib.hid (below_on D.out hb_w8)
          have T := Lib.hid (below_on T.out hb_w8)
          have V := Lib.hid (V.out.below hb_w8 V.out.lt)
          have U := Lib.hid (U.out.below hb_w8 U.out.lt)
          have Z := Lib.hid (Z.out.below hb_w8 Z.out.lt)
          clear hb_w8 hnz f_V0 f_V1 f_V2 f_V3 f_V4 f_U0 f_U1 f_U2 f_U3 f_U4 f_Z0 f_Z1 f_Z2 f_Z3 f_Z4 f_hl
          go_wp2
          go_roundw
          case rel => exact ⟨j1, by have := HP.out.2; omega, rfl, T⟩
          case measure => have := HP.out.2; simp [RowKit.intOf]; omega
        · rw [if_neg h3] at c3
          unfold R.no at c3
          clear h3
          go_wp2_with fail
          refine (c3 _ D.out).mono ?_
          rintro e v3 ⟨rfl, hb⟩
          clear p0 p1
          have D := Lib.hid (below_on D.out hb)
          have T := Lib.hid (below_on T.out hb)
          have V := Lib.hid (V.out.below hb V.out.lt)
          have U := Lib.hid (U.out.below hb U.out.lt)
          clear hb c3
          go_upto_region 14 with fail
          obtain ⟨y3, hy3⟩ : ∃ y3, y3 = v3.alloc (.cells #[.int .i64 0, .int .i64 0, .int .i64 0, .bool false, .int .i64 0] 32) := ⟨_, rfl⟩
          have hA : Below v3.heap.size v3 y3 := by rw [hy3]; exact (Below.refl _ v3).alloc (Nat.le_refl _) _
          have hV := MvAt.new v3 0 0 0 0 false
          rw [← hy3] at hV ⊢
          have lt_V := V.out.lt
          have lt_U := U.out.lt
          have gg_D := D.out.size
          have gg_T := T.out.size
          have D := Lib.hid (below_on D.out hA)
          have T := Lib.hid (below_on T.out hA)
          have V := Lib.hid (V.out.below hA V.out.lt)
          have U := Lib.hid (U.out.below hA U.out.lt)
          obtain ⟨b_Z, hbf⟩ : ∃ b, b = v3.heap.size := ⟨_, rfl⟩
          rw [← hbf] at hV ⊢
          have n_V_Z := Lib.hid (show b_V ≠ b_Z by omega)
          clear lt_V
          have n_U_Z := Lib.hid (show b_U ≠ b_Z by omega)
          clear lt_U
          have g_Z_D := Lib.hid (show w1.heap.size ≤ b_Z by rw [hbf]; exact gg_D)
          clear gg_D
          have g_Z_T := Lib.hid (show w2.heap.size ≤ b_Z by rw [hbf]; exact gg_T)
          clear gg_T
          have Z := Lib.hid hV
          clear hV hA hy3 hbf
          have c_V := V.out
          have V0 := c_V.c0
          have V1 := c_V.c1
          have V2 := c_V.c2
          have V3 := c_V.c3
          have V4 := c_V.c4
          clear c_V
          have c_U := U.out
          have U0 := c_U.c0
          have U1 := c_U.c1
          have U2 := c_U.c2
          have U3 := c_U.c3
          have U4 := c_U.c4
          clear c_U
          have c_Z := Z.out
          have Z0 := c_Z.c0
          have Z1 := c_Z.c1
          have Z2 := c_Z.c2
          have Z3 := c_Z.c3
          have Z4 := c_Z.c4
          clear c_Z
          clear V0 V1 V2 V3 V4 U0 U1 U2 U3 U4 Z0 Z1 Z2 Z3 Z4
          go_wp2
          go_roundw
          case rel => exact ⟨j1, by have := HP.out.2; omega, rfl, T⟩
          case measure => have := HP.out.2; simp [RowKit.intOf]; omega
      · obtain ⟨q, hq⟩ : ∃ q : P2, q = (sen ls)[j + 1]'(by have := LW.out; omega) := ⟨_, rfl⟩
        obtain ⟨b', o', he', y0, y1, _⟩ := PW.out.read (j + 1) (by have := LW.out; omega)
        obtain ⟨rfl, rfl⟩ := bw_opt he'
        rw [← hq, ← hj1] at y0 y1
        have hj1n : j1 < N := by omega
        have d1 : decide ((j1 : Int) < (N : Int)) = true := decide_eq_true (by omega)
        have d2 : decide (j1 < N) = true := decide_eq_true hj1n
        rw [sn_next (by have := LW.out; omega) hp hq] at c1
        have HY := Lib.hid (And.intro y0 y1)
        have hneq := fun W => ne_pos q.1 q.2 W
        clear y0 y1 he' hq
        have d3 : decide ((0 : Int) < (j : Int)) = false := decide_eq_false (by omega)
        have d4 : decide (0 < j) = false := decide_eq_false h2
        rw [sb_first (by have := LW.out; omega) h2 hp] at c2
        unfold R.no at c2
        have HP := Lib.hid (And.intro hp hj1)
        clear h1 h2 hp hj1
        have p0 := cell_later T.out HX0.out.1
        have p1 := cell_later T.out HX0.out.2
        go_wp2_with fail
        refine (c1 _ D.out).mono ?_
        rintro e v1 ⟨rfl, hb⟩
        clear p0 p1
        have D := Lib.hid (below_on D.out hb)
        have T := Lib.hid (below_on T.out hb)
        clear hb c1
        go_upto_region 10 with fail
        obtain ⟨y1, hy1⟩ : ∃ y1, y1 = v1.alloc (.cells #[.int .i64 (q.1 : Int), .int .i64 (q.2 : Int), .int .i64 0, .bool true, .int .i64 (-1)] 32) := ⟨_, rfl⟩
        have hA : Below v1.heap.size v1 y1 := by rw [hy1]; exact (Below.refl _ v1).alloc (Nat.le_refl _) _
        have hV := MvAt.new v1 (q.1 : Int) (q.2 : Int) 0 (-1) true
        rw [← hy1] at hV ⊢
        have gg_D := D.out.size
        have gg_T := T.out.size
        have D := Lib.hid (below_on D.out hA)
        have T := Lib.hid (below_on T.out hA)
        obtain ⟨b_V, hbf⟩ : ∃ b, b = v1.heap.size := ⟨_, rfl⟩
        rw [← hbf] at hV ⊢
        have g_V_D := Lib.hid (show w1.heap.size ≤ b_V by rw [hbf]; exact gg_D)
        clear gg_D
        have g_V_T := Lib.hid (show w2.heap.size ≤ b_V by rw [hbf]; exact gg_T)
        clear gg_T
        have V := Lib.hid hV
        clear hV hA hy1 hbf
        have c_V := V.out
        have V0 := c_V.c0
        have V1 := c_V.c1
        have V2 := c_V.c2
        have V3 := c_V.c3
        have V4 := c_V.c4
        clear c_V
        have p0 := cell_later T.out HX0.out.1
        have p1 := cell_later T.out HX0.out.2
        go_wp2_with fail
        refine (c2 _ D.out).mono ?_
        rintro e v2 ⟨rfl, hb⟩
        clear V0 V1 V2 V3 V4 p0 p1
        have D := Lib.hid (below_on D.out hb)
        have T := Lib.hid (below_on T.out hb)
        have V := Lib.hid (V.out.below hb V.out.lt)
        clear hb c2
        go_upto_region 11 with fail
        obtain ⟨y2, hy2⟩ : ∃ y2, y2 = v2.alloc (.cells #[.int .i64 0, .int .i64 0, .int .i64 0, .bool false, .int .i64 0] 32) := ⟨_, rfl⟩
        have hA : Below v2.heap.size v2 y2 := by rw [hy2]; exact (Below.refl _ v2).alloc (Nat.le_refl _) _
        have hV := MvAt.new v2 0 0 0 0 false
        rw [← hy2] at hV ⊢
        have lt_V := V.out.lt
        have gg_D := D.out.size
        have gg_T := T.out.size
        have D := Lib.hid (below_on D.out hA)
        have T := Lib.hid (below_on T.out hA)
        have V := Lib.hid (V.out.below hA V.out.lt)
        obtain ⟨b_U, hbf⟩ : ∃ b, b = v2.heap.size := ⟨_, rfl⟩
        rw [← hbf] at hV ⊢
        have n_V_U := Lib.hid (show b_V ≠ b_U by omega)
        clear lt_V
        have g_U_D := Lib.hid (show w1.heap.size ≤ b_U by rw [hbf]; exact gg_D)
        clear gg_D
        have g_U_T := Lib.hid (show w2.heap.size ≤ b_U by rw [hbf]; exact gg_T)
        clear gg_T
        have U := Lib.hid hV
        clear hV hA hy2 hbf
        have c_V := V.out
        have V0 := c_V.c0
        have V1 := c_V.c1
        have V2 := c_V.c2
        have V3 := c_V.c3
        have V4 := c_V.c4
        clear c_V
        have c_U := U.out
        have U0 := c_U.c0
        have U1 := c_U.c1
        have U2 := c_U.c2
        have U3 := c_U.c3
        have U4 := c_U.c4
        clear c_U
        have s0 := cell_later T.out HY.out.1
        have s1 := cell_later T.out HY.out.2
        have f_V0 := fun z : Gr y2 => z.cell V0
        have f_V1 := fun z : Gr y2 => z.cell V1
        have f_V2 := fun z : Gr y2 => z.cell V2
        have f_V3 := fun z : Gr y2 => z.cell V3
        have f_V4 := fun z : Gr y2 => z.cell V4
        have f_U0 := fun z : Gr y2 => z.cell U0
        have f_U1 := fun z : Gr y2 => z.cell U1
        have f_U2 := fun z : Gr y2 => z.cell U2
        have f_U3 := fun z : Gr y2 => z.cell U3
        have f_U4 := fun z : Gr y2 => z.cell U4
        have f_s0 := fun z : Gr y2 => z.cell s0
        have f_s1 := fun z : Gr y2 => z.cell s1
        clear V0 V1 V2 V3 V4 U0 U1 U2 U3 U4 s0 s1
        refine wp_region_grow (by kernel_rfl) (by kernel_rfl) ?_
        repeat (go_big_quiet_step (fail))
        refine wpQuiet_nil ?_
        rintro w7 ⟨⟨_, hb_w7⟩, rfl⟩
        have D := Lib.hid (below_on D.out hb_w7)
        have T := Lib.hid (below_on T.out hb_w7)
        have V := Lib.hid (V.out.below hb_w7 V.out.lt)
        have U := Lib.hid (U.out.below hb_w7 U.out.lt)
        clear hb_w7 f_V0 f_V1 f_V2 f_V3 f_V4 f_U0 f_U1 f_U2 f_U3 f_U4 f_s0 f_s1 d1 d2 d3 d4 hneq
        have p0 := cell_later T.out HX0.out.1
        have p1 := cell_later T.out HX0.out.2
        by_cases h3 : lp p te = true
        · rw [if_pos h3] at c3
          clear h3
          go_wp2_with fail
          refine (c3 _ D.out).mono ?_
          rintro e v3 ⟨rfl, hb⟩
          clear p0 p1
          have D := Lib.hid (below_on D.out hb)
          have T := Lib.hid (below_on T.out hb)
          have V := Lib.hid (V.out.below hb V.out.lt)
          have U := Lib.hid (U.out.below hb U.out.lt)
          clear hb c3
          go_upto_region 14 with fail
          obtain ⟨y3, hy3⟩ : ∃ y3, y3 = v3.alloc (.cells #[.int .i64 (te.1 : Int), .int .i64 (te.2 : Int), .int .i64 0, .bool true, .int .i64 (-1)] 32) := ⟨_, rfl⟩
          have hA : Below v3.heap.size v3 y3 := by rw [hy3]; exact (Below.refl _ v3).alloc (Nat.le_refl _) _
          have hV := MvAt.new v3 (te.1 : Int) (te.2 : Int) 0 (-1) true
          rw [← hy3] at hV ⊢
          have lt_V := V.out.lt
          have lt_U := U.out.lt
          have gg_D := D.out.size
          have gg_T := T.out.size
          have D := Lib.hid (below_on D.out hA)
          have T := Lib.hid (below_on T.out hA)
          have V := Lib.hid (V.out.below hA V.out.lt)
          have U := Lib.hid (U.out.below hA U.out.lt)
          obtain ⟨b_Z, hbf⟩ : ∃ b, b = v3.heap.size := ⟨_, rfl⟩
          rw [← hbf] at hV ⊢
          have n_V_Z := Lib.hid (show b_V ≠ b_Z by omega)
          clear lt_V
          have n_U_Z := Lib.hid (show b_U ≠ b_Z by omega)
          clear lt_U
          have g_Z_D := Lib.hid (show w1.heap.size ≤ b_Z by rw [hbf]; exact gg_D)
          clear gg_D
          have g_Z_T := Lib.hid (show w2.heap.size ≤ b_Z by rw [hbf]; exact gg_T)
          clear gg_T
          have Z := Lib.hid hV
          clear hV hA hy3 hbf
          have c_V := V.out
          have V0 := c_V.c0
          have V1 := c_V.c1
          have V2 := c_V.c2
          have V3 := c_V.c3
          have V4 := c_V.c4
          clear c_V
          have c_U := U.out
          have U0 := c_U.c0
          have U1 := c_U.c1
          have U2 := c_U.c2
          have U3 := c_U.c3
          have U4 := c_U.c4
          clear c_U
          have c_Z := Z.out
          have Z0 := c_Z.c0
          have Z1 := c_Z.c1
          have Z2 := c_Z.c2
          have Z3 := c_Z.c3
          have Z4 := c_Z.c4
          clear c_Z
          go_upto_region 16 with fail
          have hl := cell_later D.out HC.out
          obtain ⟨-, e1, e2⟩ := HTE.out
          have hnz : ∀ W, (binOp .neq 24 (.agg #[.int .i64 te.1, .int .i64 te.2]) (.agg #[.int .i64 kk, .int .i64 ((lineAt ls kk).size : Nat)])).run Try.prog W = .ok (.bool false) W := fun W => by rw [← e2, ← e1]; exact ne_pos te.1 te.2 W
          clear e1 e2
          have f_V0 := fun z : Gr y3 => z.cell V0
          have f_V1 := fun z : Gr y3 => z.cell V1
          have f_V2 := fun z : Gr y3 => z.cell V2
          have f_V3 := fun z : Gr y3 => z.cell V3
          have f_V4 := fun z : Gr y3 => z.cell V4
          have f_U0 := fun z : Gr y3 => z.cell U0
          have f_U1 := fun z : Gr y3 => z.cell U1
          have f_U2 := fun z : Gr y3 => z.cell U2
          have f_U3 := fun z : Gr y3 => z.cell U3
          have f_U4 := fun z : Gr y3 => z.cell U4
          have f_Z0 := fun z : Gr y3 => z.cell Z0
          have f_Z1 := fun z : Gr y3 => z.cell Z1
          have f_Z2 := fun z : Gr y3 => z.cell Z2
          have f_Z3 := fun z : Gr y3 => z.cell Z3
          have f_Z4 := fun z : Gr y3 => z.cell Z4
          have f_hl := fun z : Gr y3 => z.cell hl
          clear V0 V1 V2 V3 V4 U0 U1 U2 U3 U4 Z0 Z1 Z2 Z3 Z4 hl
          refine wp_region_grow (by kernel_rfl) (by kernel_rfl) ?_
          repeat (go_big_quiet_step (fail))
          refine wpQuiet_nil ?_
          rintro w8 ⟨⟨_, hb_w8⟩, rfl⟩
          have D := Lib.hid (below_on D.out hb_w8)
          have T := Lib.hid (below_on T.out hb_w8)
          have V := Lib.hid (V.out.below hb_w8 V.out.lt)
          have U := Lib.hid (U.out.below hb_w8 U.out.lt)
          have Z := Lib.hid (Z.out.below hb_w8 Z.out.lt)
          clear hb_w8 hnz f_V0 f_V1 f_V2 f_V3 f_V4 f_U0 f_U1 f_U2 f_U3 f_U4 f_Z0 f_Z1 f_Z2 f_Z3 f_Z4 f_hl
          go_wp2
          go_roundw
          case rel => exact ⟨j1, by have := HP.out.2; omega, rfl, T⟩
          case measure => have := HP.out.2; simp [RowKit.intOf]; omega
        · rw [if_neg h3] at c3
          unfold R.no at c3
          clear h3
          go_wp2_with fail
          refine (c3 _ D.out).mono ?_
          rintro e v3 ⟨rfl, hb⟩
          clear p0 p1
          have D := Lib.hid (below_on D.out hb)
          have T := Lib.hid (below_on T.out hb)
          have V := Lib.hid (V.out.below hb V.out.lt)
          have U := Lib.hid (U.out.below hb U.out.lt)
          clear hb c3
          go_upto_region 14 with fail
          obtain ⟨y3, hy3⟩ : ∃ y3, y3 = v3.alloc (.cells #[.int .i64 0, .int .i64 0, .int .i64 0, .bool false, .int .i64 0] 32) := ⟨_, rfl⟩
          have hA : Below v3.heap.size v3 y3 := by rw [hy3]; exact (Below.refl _ v3).alloc (Nat.le_refl _) _
          have hV := MvAt.new v3 0 0 0 0 false
          rw [← hy3] at hV ⊢
          have lt_V := V.out.lt
          have lt_U := U.out.lt
          have gg_D := D.out.size
          have gg_T := T.out.size
          have D := Lib.hid (below_on D.out hA)
          have T := Lib.hid (below_on T.out hA)
          have V := Lib.hid (V.out.below hA V.out.lt)
          have U := Lib.hid (U.out.below hA U.out.lt)
          obtain ⟨b_Z, hbf⟩ : ∃ b, b = v3.heap.size := ⟨_, rfl⟩
          rw [← hbf] at hV ⊢
          have n_V_Z := Lib.hid (show b_V ≠ b_Z by omega)
          clear lt_V
          have n_U_Z := Lib.hid (show b_U ≠ b_Z by omega)
          clear lt_U
          have g_Z_D := Lib.hid (show w1.heap.size ≤ b_Z by rw [hbf]; exact gg_D)
          clear gg_D
          have g_Z_T := Lib.hid (show w2.heap.size ≤ b_Z by rw [hbf]; exact gg_T)
          clear gg_T
          have Z := Lib.hid hV
          clear hV hA hy3 hbf
          have c_V := V.out
          have V0 := c_V.c0
          have V1 := c_V.c1
          have V2 := c_V.c2
          have V3 := c_V.c3
          have V4 := c_V.c4
          clear c_V
          have c_U := U.out
          have U0 := c_U.c0
          have U1 := c_U.c1
          have U2 := c_U.c2
          have U3 := c_U.c3
          have U4 := c_U.c4
          clear c_U
          have c_Z := Z.out
          have Z0 := c_Z.c0
          have Z1 := c_Z.c1
          have Z2 := c_Z.c2
          have Z3 := c_Z.c3
          have Z4 := c_Z.c4
          clear c_Z
          clear V0 V1 V2 V3 V4 U0 U1 U2 U3 U4 Z0 Z1 Z2 Z3 Z4
          go_wp2
          go_roundw
          case rel => exact ⟨j1, by have := HP.out.2; omega, rfl, T⟩
          case measure => have := HP.out.2; simp [RowKit.intOf]; omega
    · by_cases h2 : 0 < j
      · have d1 : decide ((j1 : Int) < (N : Int)) = false := decide_eq_false (by omega)
        have d2 : decide (j1 < N) = false := decide_eq_false (by omega)
        rw [sn_last (by have := LW.out; omega) (by have := LW.out; omega) hp] at c1
        unfold R.no at c1
        obtain ⟨r, hr⟩ : ∃ r : P2, r = (sen ls)[j - 1]'(by have := LW.out; omega) := ⟨_, rfl⟩
        obtain ⟨b', o', he', y0, y1, _⟩ := PW.out.read (j - 1) (by have := LW.out; omega)
        obtain ⟨rfl, rfl⟩ := bw_opt he'
        obtain ⟨m1, hm1⟩ : ∃ m1, m1 = j - 1 := ⟨_, rfl⟩
        rw [← hr, ← hm1] at y0 y1
        have hwm1 : IntKind.i64.wrap ((j : Int) - 1) = (m1 : Int) := by rw [IntKind.wrap_i64]; omega
        have hm1n : m1 < N := by omega
        have d3 : decide ((0 : Int) < (j : Int)) = true := decide_eq_true (by omega)
        have d4 : decide (0 < j) = true := decide_eq_true h2
        rw [sb_back (by have := LW.out; omega) h2 hp hr] at c2
        have HZ := Lib.hid (And.intro y0 y1)
        have hner := fun W => ne_pos r.1 r.2 W
        clear y0 y1 he' hr hm1
        have HP := Lib.hid (And.intro hp hj1)
        clear h1 h2 hp hj1
        have p0 := cell_later T.out HX0.out.1
        have p1 := cell_later T.out HX0.out.2
        go_wp2_with fail
        refine (c1 _ D.out).mono ?_
        rintro e v1 ⟨rfl, hb⟩
        clear p0 p1
        have D := Lib.hid (below_on D.out hb)
        have T := Lib.hid (below_on T.out hb)
        clear hb c1
        go_upto_region 10 with fail
        obtain ⟨y1, hy1⟩ : ∃ y1, y1 = v1.alloc (.cells #[.int .i64 0, .int .i64 0, .int .i64 0, .bool false, .int .i64 0] 32) := ⟨_, rfl⟩
        have hA : Below v1.heap.size v1 y1 := by rw [hy1]; exact (Below.refl _ v1).alloc (Nat.le_refl _) _
        have hV := MvAt.new v1 0 0 0 0 false
        rw [← hy1] at hV ⊢
        have gg_D := D.out.size
        have gg_T := T.out.size
        have D := Lib.hid (below_on D.out hA)
        have T := Lib.hid (below_on T.out hA)
        obtain ⟨b_V, hbf⟩ : ∃ b, b = v1.heap.size := ⟨_, rfl⟩
        rw [← hbf] at hV ⊢
        have g_V_D := Lib.hid (show w1.heap.size ≤ b_V by rw [hbf]; exact gg_D)
        clear gg_D
        have g_V_T := Lib.hid (show w2.heap.size ≤ b_V by rw [hbf]; exact gg_T)
        clear gg_T
        have V := Lib.hid hV
        clear hV hA hy1 hbf
        have c_V := V.out
        have V0 := c_V.c0
        have V1 := c_V.c1
        have V2 := c_V.c2
        have V3 := c_V.c3
        have V4 := c_V.c4
        clear c_V
        have p0 := cell_later T.out HX0.out.1
        have p1 := cell_later T.out HX0.out.2
        go_wp2_with fail
        refine (c2 _ D.out).mono ?_
        rintro e v2 ⟨rfl, hb⟩
        clear V0 V1 V2 V3 V4 p0 p1
        have D := Lib.hid (below_on D.out hb)
        have T := Lib.hid (below_on T.out hb)
        have V := Lib.hid (V.out.below hb V.out.lt)
        clear hb c2
        go_upto_region 11 with fail
        obtain ⟨y2, hy2⟩ : ∃ y2, y2 = v2.alloc (.cells #[.int .i64 (r.1 : Int), .int .i64 (r.2 : Int), .int .i64 0, .bool true, .int .i64 (-1)] 32) := ⟨_, rfl⟩
        have hA : Below v2.heap.size v2 y2 := by rw [hy2]; exact (Below.refl _ v2).alloc (Nat.le_refl _) _
        have hV := MvAt.new v2 (r.1 : Int) (r.2 : Int) 0 (-1) true
        rw [← hy2] at hV ⊢
        have lt_V := V.out.lt
        have gg_D := D.out.size
        have gg_T := T.out.size
        have D := Lib.hid (below_on D.out hA)
        have T := Lib.hid (below_on T.out hA)
        have V := Lib.hid (V.out.below hA V.out.lt)
        obtain ⟨b_U, hbf⟩ : ∃ b, b = v2.heap.size := ⟨_, rfl⟩
        rw [← hbf] at hV ⊢
        have n_V_U := Lib.hid (show b_V ≠ b_U by omega)
        clear lt_V
        have g_U_D := Lib.hid (show w1.heap.size ≤ b_U by rw [hbf]; exact gg_D)
        clear gg_D
        have g_U_T := Lib.hid (show w2.heap.size ≤ b_U by rw [hbf]; exact gg_T)
        clear gg_T
        have U := Lib.hid hV
        clear hV hA hy2 hbf
        have c_V := V.out
        have V0 := c_V.c0
        have V1 := c_V.c1
        have V2 := c_V.c2
        have V3 := c_V.c3
        have V4 := c_V.c4
        clear c_V
        have c_U := U.out
        have U0 := c_U.c0
        have U1 := c_U.c1
        have U2 := c_U.c2
        have U3 := c_U.c3
        have U4 := c_U.c4
        clear c_U
        have r0 := cell_later T.out HZ.out.1
        have r1 := cell_later T.out HZ.out.2
        have f_V0 := fun z : Gr y2 => z.cell V0
        have f_V1 := fun z : Gr y2 => z.cell V1
        have f_V2 := fun z : Gr y2 => z.cell V2
        have f_V3 := fun z : Gr y2 => z.cell V3
        have f_V4 := fun z : Gr y2 => z.cell V4
        have f_U0 := fun z : Gr y2 => z.cell U0
        have f_U1 := fun z : Gr y2 => z.cell U1
        have f_U2 := fun z : Gr y2 => z.cell U2
        have f_U3 := fun z : Gr y2 => z.cell U3
        have f_U4 := fun z : Gr y2 => z.cell U4
        have f_r0 := fun z : Gr y2 => z.cell r0
        have f_r1 := fun z : Gr y2 => z.cell r1
        clear V0 V1 V2 V3 V4 U0 U1 U2 U3 U4 r0 r1
        refine wp_region_grow (by kernel_rfl) (by kernel_rfl) ?_
        repeat (go_big_quiet_step (fail))
        refine wpQuiet_nil ?_
        rintro w7 ⟨⟨_, hb_w7⟩, rfl⟩
        have D := Lib.hid (below_on D.out hb_w7)
        have T := Lib.hid (below_on T.out hb_w7)
        have V := Lib.hid (V.out.below hb_w7 V.out.lt)
        have U := Lib.hid (U.out.below hb_w7 U.out.lt)
        clear hb_w7 f_V0 f_V1 f_V2 f_V3 f_V4 f_U0 f_U1 f_U2 f_U3 f_U4 f_r0 f_r1 d1 d2 d3 d4 hner
        have p0 := cell_later T.out HX0.out.1
        have p1 := cell_later T.out HX0.out.2
        by_cases h3 : lp p te = true
        · rw [if_pos h3] at c3
          clear h3
          go_wp2_with fail
          refine (c3 _ D.out).mono ?_
          rintro e v3 ⟨rfl, hb⟩
          clear p0 p1
          have D := Lib.hid (below_on D.out hb)
          have T := Lib.hid (below_on T.out hb)
          have V := Lib.hid (V.out.below hb V.out.lt)
          have U := Lib.hid (U.out.below hb U.out.lt)
          clear hb c3
          go_upto_region 14 with fail
          obtain ⟨y3, hy3⟩ : ∃ y3, y3 = v3.alloc (.cells #[.int .i64 (te.1 : Int), .int .i64 (te.2 : Int), .int .i64 0, .bool true, .int .i64 (-1)] 32) := ⟨_, rfl⟩
          have hA : Below v3.heap.size v3 y3 := by rw [hy3]; exact (Below.refl _ v3).alloc (Nat.le_refl _) _
          have hV := MvAt.new v3 (te.1 : Int) (te.2 : Int) 0 (-1) true
          rw [← hy3] at hV ⊢
          have lt_V := V.out.lt
          have lt_U := U.out.lt
          have gg_D := D.out.size
          have gg_T := T.out.size
          have D := Lib.hid (below_on D.out hA)
          have T := Lib.hid (below_on T.out hA)
          have V := Lib.hid (V.out.below hA V.out.lt)
          have U := Lib.hid (U.out.below hA U.out.lt)
          obtain ⟨b_Z, hbf⟩ : ∃ b, b = v3.heap.size := ⟨_, rfl⟩
          rw [← hbf] at hV ⊢
          have n_V_Z := Lib.hid (show b_V ≠ b_Z by omega)
          clear lt_V
          have n_U_Z := Lib.hid (show b_U ≠ b_Z by omega)
          clear lt_U
          have g_Z_D := Lib.hid (show w1.heap.size ≤ b_Z by rw [hbf]; exact gg_D)
          clear gg_D
          have g_Z_T := Lib.hid (show w2.heap.size ≤ b_Z by rw [hbf]; exact gg_T)
          clear gg_T
          have Z := Lib.hid hV
          clear hV hA hy3 hbf
          have c_V := V.out
          have V0 := c_V.c0
          have V1 := c_V.c1
          have V2 := c_V.c2
          have V3 := c_V.c3
          have V4 := c_V.c4
          clear c_V
          have c_U := U.out
          have U0 := c_U.c0
          have U1 := c_U.c1
          have U2 := c_U.c2
          have U3 := c_U.c3
          have U4 := c_U.c4
          clear c_U
          have c_Z := Z.out
          have Z0 := c_Z.c0
          have Z1 := c_Z.c1
          have Z2 := c_Z.c2
          have Z3 := c_Z.c3
          have Z4 := c_Z.c4
          clear c_Z
          go_upto_region 16 with fail
          have hl := cell_later D.out HC.out
          obtain ⟨-, e1, e2⟩ := HTE.out
          have hnz : ∀ W, (binOp .neq 24 (.agg #[.int .i64 te.1, .int .i64 te.2]) (.agg #[.int .i64 kk, .int .i64 ((lineAt ls kk).size : Nat)])).run Try.prog W = .ok (.bool false) W := fun W => by rw [← e2, ← e1]; exact ne_pos te.1 te.2 W
          clear e1 e2
          have f_V0 := fun z : Gr y3 => z.cell V0
          have f_V1 := fun z : Gr y3 => z.cell V1
          have f_V2 := fun z : Gr y3 => z.cell V2
          have f_V3 := fun z : Gr y3 => z.cell V3
          have f_V4 := fun z : Gr y3 => z.cell V4
          have f_U0 := fun z : Gr y3 => z.cell U0
          have f_U1 := fun z : Gr y3 => z.cell U1
          have f_U2 := fun z : Gr y3 => z.cell U2
          have f_U3 := fun z : Gr y3 => z.cell U3
          have f_U4 := fun z : Gr y3 => z.cell U4
          have f_Z0 := fun z : Gr y3 => z.cell Z0
          have f_Z1 := fun z : Gr y3 => z.cell Z1
          have f_Z2 := fun z : Gr y3 => z.cell Z2
          have f_Z3 := fun z : Gr y3 => z.cell Z3
          have f_Z4 := fun z : Gr y3 => z.cell Z4
          have f_hl := fun z : Gr y3 => z.cell hl
          clear V0 V1 V2 V3 V4 U0 U1 U2 U3 U4 Z0 Z1 Z2 Z3 Z4 hl
          refine wp_region_grow (by kernel_rfl) (by kernel_rfl) ?_
          repeat (go_big_quiet_step (fail))
          refine wpQuiet_nil ?_
          rintro w8 ⟨⟨_, hb_w8⟩, rfl⟩
          have D := Lib.hid (below_on D.out hb_w8)
          have T := Lib.hid (below_on T.out hb_w8)
          have V := Lib.hid (V.out.below hb_w8 V.out.lt)
          have U := Lib.hid (U.out.below hb_w8 U.out.lt)
          have Z := Lib.hid (Z.out.below hb_w8 Z.out.lt)
          clear hb_w8 hnz f_V0 f_V1 f_V2 f_V3 f_V4 f_U0 f_U1 f_U2 f_U3 f_U4 f_Z0 f_Z1 f_Z2 f_Z3 f_Z4 f_hl
          go_wp2
          go_roundw
          case rel => exact ⟨j1, by have := HP.out.2; omega, rfl, T⟩
          case measure => have := HP.out.2; simp [RowKit.intOf]; omega
        · rw [if_neg h3] at c3
          unfold R.no at c3
          clear h3
          go_wp2_with fail
          refine (c3 _ D.out).mono ?_
          rintro e v3 ⟨rfl, hb⟩
          clear p0 p1
          have D := Lib.hid (below_on D.out hb)
          have T := Lib.hid (below_on T.out hb)
          have V := Lib.hid (V.out.below hb V.out.lt)
          have U := Lib.hid (U.out.below hb U.out.lt)
          clear hb c3
          go_upto_region 14 with fail
          obtain ⟨y3, hy3⟩ : ∃ y3, y3 = v3.alloc (.cells #[.int .i64 0, .int .i64 0, .int .i64 0, .bool false, .int .i64 0] 32) := ⟨_, rfl⟩
          have hA : Below v3.heap.size v3 y3 := by rw [hy3]; exact (Below.refl _ v3).alloc (Nat.le_refl _) _
          have hV := MvAt.new v3 0 0 0 0 false
          rw [← hy3] at hV ⊢
          have lt_V := V.out.lt
          have lt_U := U.out.lt
          have gg_D := D.out.size
          have gg_T := T.out.size
          have D := Lib.hid (below_on D.out hA)
          have T := Lib.hid (below_on T.out hA)
          have V := Lib.hid (V.out.below hA V.out.lt)
          have U := Lib.hid (U.out.below hA U.out.lt)
          obtain ⟨b_Z, hbf⟩ : ∃ b, b = v3.heap.size := ⟨_, rfl⟩
          rw [← hbf] at hV ⊢
          have n_V_Z := Lib.hid (show b_V ≠ b_Z by omega)
          clear lt_V
          have n_U_Z := Lib.hid (show b_U ≠ b_Z by omega)
          clear lt_U
          have g_Z_D := Lib.hid (show w1.heap.size ≤ b_Z by rw [hbf]; exact gg_D)
          clear gg_D
          have g_Z_T := Lib.hid (show w2.heap.size ≤ b_Z by rw [hbf]; exact gg_T)
          clear gg_T
          have Z := Lib.hid hV
          clear hV hA hy3 hbf
          have c_V := V.out
          have V0 := c_V.c0
          have V1 := c_V.c1
          have V2 := c_V.c2
          have V3 := c_V.c3
          have V4 := c_V.c4
          clear c_V
          have c_U := U.out
          have U0 := c_U.c0
          have U1 := c_U.c1
          have U2 := c_U.c2
          have U3 := c_U.c3
          have U4 := c_U.c4
          clear c_U
          have c_Z := Z.out
          have Z0 := c_Z.c0
          have Z1 := c_Z.c1
          have Z2 := c_Z.c2
          have Z3 := c_Z.c3
          have Z4 := c_Z.c4
          clear c_Z
          clear V0 V1 V2 V3 V4 U0 U1 U2 U3 U4 Z0 Z1 Z2 Z3 Z4
          go_wp2
          go_roundw
          case rel => exact ⟨j1, by have := HP.out.2; omega, rfl, T⟩
          case measure => have := HP.out.2; simp [RowKit.intOf]; omega
      · have d1 : decide ((j1 : Int) < (N : Int)) = false := decide_eq_false (by omega)
        have d2 : decide (j1 < N) = false := decide_eq_false (by omega)
        rw [sn_last (by have := LW.out; omega) (by have := LW.out; omega) hp] at c1
        unfold R.no at c1
        have d3 : decide ((0 : Int) < (j : Int)) = false := decide_eq_false (by omega)
        have d4 : decide (0 < j) = false := decide_eq_false h2
        rw [sb_first (by have := LW.out; omega) h2 hp] at c2
        unfold R.no at c2
        have HP := Lib.hid (And.intro hp hj1)
        clear h1 h2 hp hj1
        have p0 := cell_later T.out HX0.out.1
        have p1 := cell_later T.out HX0.out.2
        go_wp2_with fail
        refine (c1 _ D.out).mono ?_
        rintro e v1 ⟨rfl, hb⟩
        clear p0 p1
        have D := Lib.hid (below_on D.out hb)
        have T := Lib.hid (below_on T.out hb)
        clear hb c1
        go_upto_region 10 with fail
        obtain ⟨y1, hy1⟩ : ∃ y1, y1 = v1.alloc (.cells #[.int .i64 0, .int .i64 0, .int .i64 0, .bool false, .int .i64 0] 32) := ⟨_, rfl⟩
        have hA : Below v1.heap.size v1 y1 := by rw [hy1]; exact (Below.refl _ v1).alloc (Nat.le_refl _) _
        have hV := MvAt.new v1 0 0 0 0 false
        rw [← hy1] at hV ⊢
        have gg_D := D.out.size
        have gg_T := T.out.size
        have D := Lib.hid (below_on D.out hA)
        have T := Lib.hid (below_on T.out hA)
        obtain ⟨b_V, hbf⟩ : ∃ b, b = v1.heap.size := ⟨_, rfl⟩
        rw [← hbf] at hV ⊢
        have g_V_D := Lib.hid (show w1.heap.size ≤ b_V by rw [hbf]; exact gg_D)
        clear gg_D
        have g_V_T := Lib.hid (show w2.heap.size ≤ b_V by rw [hbf]; exact gg_T)
        clear gg_T
        have V := Lib.hid hV
        clear hV hA hy1 hbf
        have c_V := V.out
        have V0 := c_V.c0
        have V1 := c_V.c1
        have V2 := c_V.c2
        have V3 := c_V.c3
        have V4 := c_V.c4
        clear c_V
        have p0 := cell_later T.out HX0.out.1
        have p1 := cell_later T.out HX0.out.2
        go_wp2_with fail
        refine (c2 _ D.out).mono ?_
        rintro e v2 ⟨rfl, hb⟩
        clear V0 V1 V2 V3 V4 p0 p1
        have D := Lib.hid (below_on D.out hb)
        have T := Lib.hid (below_on T.out hb)
        have V := Lib.hid (V.out.below hb V.out.lt)
        clear hb c2
        go_upto_region 11 with fail
        obtain ⟨y2, hy2⟩ : ∃ y2, y2 = v2.alloc (.cells #[.int .i64 0, .int .i64 0, .int .i64 0, .bool false, .int .i64 0] 32) := ⟨_, rfl⟩
        have hA : Below v2.heap.size v2 y2 := by rw [hy2]; exact (Below.refl _ v2).alloc (Nat.le_refl _) _
        have hV := MvAt.new v2 0 0 0 0 false
        rw [← hy2] at hV ⊢
        have lt_V := V.out.lt
        have gg_D := D.out.size
        have gg_T := T.out.size
        have D := Lib.hid (below_on D.out hA)
        have T := Lib.hid (below_on T.out hA)
        have V := Lib.hid (V.out.below hA V.out.lt)
        obtain ⟨b_U, hbf⟩ : ∃ b, b = v2.heap.size := ⟨_, rfl⟩
        rw [← hbf] at hV ⊢
        have n_V_U := Lib.hid (show b_V ≠ b_U by omega)
        clear lt_V
        have g_U_D := Lib.hid (show w1.heap.size ≤ b_U by rw [hbf]; exact gg_D)
        clear gg_D
        have g_U_T := Lib.hid (show w2.heap.size ≤ b_U by rw [hbf]; exact gg_T)
        clear gg_T
        have U := Lib.hid hV
        clear hV hA hy2 hbf
        have c_V := V.out
        have V0 := c_V.c0
        have V1 := c_V.c1
        have V2 := c_V.c2
        have V3 := c_V.c3
        have V4 := c_V.c4
        clear c_V
        have c_U := U.out
        have U0 := c_U.c0
        have U1 := c_U.c1
        have U2 := c_U.c2
        have U3 := c_U.c3
        have U4 := c_U.c4
        clear c_U
        have f_V0 := fun z : Gr y2 => z.cell V0
        have f_V1 := fun z : Gr y2 => z.cell V1
        have f_V2 := fun z : Gr y2 => z.cell V2
        have f_V3 := fun z : Gr y2 => z.cell V3
        have f_V4 := fun z : Gr y2 => z.cell V4
        have f_U0 := fun z : Gr y2 => z.cell U0
        have f_U1 := fun z : Gr y2 => z.cell U1
        have f_U2 := fun z : Gr y2 => z.cell U2
        have f_U3 := fun z : Gr y2 => z.cell U3
        have f_U4 := fun z : Gr y2 => z.cell U4
        clear V0 V1 V2 V3 V4 U0 U1 U2 U3 U4
        refine wp_region_grow (by kernel_rfl) (by kernel_rfl) ?_
        repeat (go_big_quiet_step (fail))
        refine wpQuiet_nil ?_
        rintro w7 ⟨⟨_, hb_w7⟩, rfl⟩
        have D := Lib.hid (below_on D.out hb_w7)
        have T := Lib.hid (below_on T.out hb_w7)
        have V := Lib.hid (V.out.below hb_w7 V.out.lt)
        have U := Lib.hid (U.out.below hb_w7 U.out.lt)
        clear hb_w7 f_V0 f_V1 f_V2 f_V3 f_V4 f_U0 f_U1 f_U2 f_U3 f_U4 d1 d2 d3 d4
        have p0 := cell_later T.out HX0.out.1
        have p1 := cell_later T.out HX0.out.2
        by_cases h3 : lp p te = true
        · rw [if_pos h3] at c3
          clear h3
          go_wp2_with fail
          refine (c3 _ D.out).mono ?_
          rintro e v3 ⟨rfl, hb⟩
          clear p0 p1
          have D := Lib.hid (below_on D.out hb)
          have T := Lib.hid (below_on T.out hb)
          have V := Lib.hid (V.out.below hb V.out.lt)
          have U := Lib.hid (U.out.below hb U.out.lt)
          clear hb c3
          go_upto_region 14 with fail
          obtain ⟨y3, hy3⟩ : ∃ y3, y3 = v3.alloc (.cells #[.int .i64 (te.1 : Int), .int .i64 (te.2 : Int), .int .i64 0, .bool true, .int .i64 (-1)] 32) := ⟨_, rfl⟩
          have hA : Below v3.heap.size v3 y3 := by rw [hy3]; exact (Below.refl _ v3).alloc (Nat.le_refl _) _
          have hV := MvAt.new v3 (te.1 : Int) (te.2 : Int) 0 (-1) true
          rw [← hy3] at hV ⊢
          have lt_V := V.out.lt
          have lt_U := U.out.lt
          have gg_D := D.out.size
          have gg_T := T.out.size
          have D := Lib.hid (below_on D.out hA)
          have T := Lib.hid (below_on T.out hA)
          have V := Lib.hid (V.out.below hA V.out.lt)
          have U := Lib.hid (U.out.below hA U.out.lt)
          obtain ⟨b_Z, hbf⟩ : ∃ b, b = v3.heap.size := ⟨_, rfl⟩
          rw [← hbf] at hV ⊢
          have n_V_Z := Lib.hid (show b_V ≠ b_Z by omega)
          clear lt_V
          have n_U_Z := Lib.hid (show b_U ≠ b_Z by omega)
          clear lt_U
          have g_Z_D := Lib.hid (show w1.heap.size ≤ b_Z by rw [hbf]; exact gg_D)
          clear gg_D
          have g_Z_T := Lib.hid (show w2.heap.size ≤ b_Z by rw [hbf]; exact gg_T)
          clear gg_T
          have Z := Lib.hid hV
          clear hV hA hy3 hbf
          have c_V := V.out
          have V0 := c_V.c0
          have V1 := c_V.c1
          have V2 := c_V.c2
          have V3 := c_V.c3
          have V4 := c_V.c4
          clear c_V
          have c_U := U.out
          have U0 := c_U.c0
          have U1 := c_U.c1
          have U2 := c_U.c2
          have U3 := c_U.c3
          have U4 := c_U.c4
          clear c_U
          have c_Z := Z.out
          have Z0 := c_Z.c0
          have Z1 := c_Z.c1
          have Z2 := c_Z.c2
          have Z3 := c_Z.c3
          have Z4 := c_Z.c4
          clear c_Z
          go_upto_region 16 with fail
          have hl := cell_later D.out HC.out
          obtain ⟨-, e1, e2⟩ := HTE.out
          have hnz : ∀ W, (binOp .neq 24 (.agg #[.int .i64 te.1, .int .i64 te.2]) (.agg #[.int .i64 kk, .int .i64 ((lineAt ls kk).size : Nat)])).run Try.prog W = .ok (.bool false) W := fun W => by rw [← e2, ← e1]; exact ne_pos te.1 te.2 W
          clear e1 e2
          have f_V0 := fun z : Gr y3 => z.cell V0
          have f_V1 := fun z : Gr y3 => z.cell V1
          have f_V2 := fun z : Gr y3 => z.cell V2
          have f_V3 := fun z : Gr y3 => z.cell V3
          have f_V4 := fun z : Gr y3 => z.cell V4
          have f_U0 := fun z : Gr y3 => z.cell U0
          have f_U1 := fun z : Gr y3 => z.cell U1
          have f_U2 := fun z : Gr y3 => z.cell U2
          have f_U3 := fun z : Gr y3 => z.cell U3
          have f_U4 := fun z : Gr y3 => z.cell U4
          have f_Z0 := fun z : Gr y3 => z.cell Z0
          have f_Z1 := fun z : Gr y3 => z.cell Z1
          have f_Z2 := fun z : Gr y3 => z.cell Z2
          have f_Z3 := fun z : Gr y3 => z.cell Z3
          have f_Z4 := fun z : Gr y3 => z.cell Z4
          have f_hl := fun z : Gr y3 => z.cell hl
          clear V0 V1 V2 V3 V4 U0 U1 U2 U3 U4 Z0 Z1 Z2 Z3 Z4 hl
          refine wp_region_grow (by kernel_rfl) (by kernel_rfl) ?_
          repeat (go_big_quiet_step (fail))
          refine wpQuiet_nil ?_
          rintro w8 ⟨⟨_, hb_w8⟩, rfl⟩
          have D := Lib.hid (below_on D.out hb_w8)
          have T := Lib.hid (below_on T.out hb_w8)
          have V := Lib.hid (V.out.below hb_w8 V.out.lt)
          have U := Lib.hid (U.out.below hb_w8 U.out.lt)
          have Z := Lib.hid (Z.out.below hb_w8 Z.out.lt)
          clear hb_w8 hnz f_V0 f_V1 f_V2 f_V3 f_V4 f_U0 f_U1 f_U2 f_U3 f_U4 f_Z0 f_Z1 f_Z2 f_Z3 f_Z4 f_hl
          go_wp2
          go_roundw
          case rel => exact ⟨j1, by have := HP.out.2; omega, rfl, T⟩
          case measure => have := HP.out.2; simp [RowKit.intOf]; omega
        · rw [if_neg h3] at c3
          unfold R.no at c3
          clear h3
          go_wp2_with fail
          refine (c3 _ D.out).mono ?_
          rintro e v3 ⟨rfl, hb⟩
          clear p0 p1
          have D := Lib.hid (below_on D.out hb)
          have T := Lib.hid (below_on T.out hb)
          have V := Lib.hid (V.out.below hb V.out.lt)
          have U := Lib.hid (U.out.below hb U.out.lt)
          clear hb c3
          go_upto_region 14 with fail
          obtain ⟨y3, hy3⟩ : ∃ y3, y3 = v3.alloc (.cells #[.int .i64 0, .int .i64 0, .int .i64 0, .bool false, .int .i64 0] 32) := ⟨_, rfl⟩
          have hA : Below v3.heap.size v3 y3 := by rw [hy3]; exact (Below.refl _ v3).alloc (Nat.le_refl _) _
          have hV := MvAt.new v3 0 0 0 0 false
          rw [← hy3] at hV ⊢
          have lt_V := V.out.lt
          have lt_U := U.out.lt
          have gg_D := D.out.size
          have gg_T := T.out.size
          have D := Lib.hid (below_on D.out hA)
          have T := Lib.hid (below_on T.out hA)
          have V := Lib.hid (V.out.below hA V.out.lt)
          have U := Lib.hid (U.out.below hA U.out.lt)
          obtain ⟨b_Z, hbf⟩ : ∃ b, b = v3.heap.size := ⟨_, rfl⟩
          rw [← hbf] at hV ⊢
          have n_V_Z := Lib.hid (show b_V ≠ b_Z by omega)
          clear lt_V
          have n_U_Z := Lib.hid (show b_U ≠ b_Z by omega)
          clear lt_U
          have g_Z_D := Lib.hid (show w1.heap.size ≤ b_Z by rw [hbf]; exact gg_D)
          clear gg_D
          have g_Z_T := Lib.hid (show w2.heap.size ≤ b_Z by rw [hbf]; exact gg_T)
          clear gg_T
          have Z := Lib.hid hV
          clear hV hA hy3 hbf
          have c_V := V.out
          have V0 := c_V.c0
          have V1 := c_V.c1
          have V2 := c_V.c2
          have V3 := c_V.c3
          have V4 := c_V.c4
          clear c_V
          have c_U := U.out
          have U0 := c_U.c0
          have U1 := c_U.c1
          have U2 := c_U.c2
          have U3 := c_U.c3
          have U4 := c_U.c4
          clear c_U
          have c_Z := Z.out
          have Z0 := c_Z.c0
          have Z1 := c_Z.c1
          have Z2 := c_Z.c2
          have Z3 := c_Z.c3
          have Z4 := c_Z.c4
          clear c_Z
          clear V0 V1 V2 V3 V4 U0 U1 U2 U3 U4 Z0 Z1 Z2 Z3 Z4
          go_wp2
          go_roundw
          case rel => exact ⟨j1, by have := HP.out.2; omega, rfl, T⟩
          case measure => have := HP.out.2; simp [RowKit.intOf]; omega
end Go.Proofs.Ytpdbfdhfonfbeaa.GOrd
