/-
  The document's Enclosing.
-/
import Derived.Test.YtbimblfkkmpieaaJo
import Derived.Test.YtbimblfkkmpieaaJe
set_option linter.unusedVariables false
set_option linter.unusedSimpArgs false
set_option maxRecDepth 100000
namespace Go.Proofs.Ytbimblfkkmpieaa.Pr
open Go Go.RowKit Go.Proofs.Ytbimblfkkmpieaa.Vk Go.Proofs.Ytbimblfkkmpieaa.Str Go.Proofs.Ytbimblfkkmpieaa.Ln Go.Proofs.Ytbimblfkkmpieaa.Cl Go.Proofs.Ytbimblfkkmpieaa.Mv Go.Proofs.Ytbimblfkkmpieaa.Wd Go.Shelf
attribute [local go_sem] Oper.semAt_some

/-- Two places in their variables, and a bool, are handed back. -/
theorem ret_ppt {fn : Func} {p q r : Tmp} {a : Act} {w : World} {g g' : Nat} {x y x' y' : Int} {ok : Bool} {Q : Ending → World → Prop} (h : fn.results = #[.cell p 24, .cell q 24, .tmp r]) (hp : a.tmps.getD p undef = .pointer (some ⟨g, 0, none⟩)) (hq : a.tmps.getD q undef = .pointer (some ⟨g', 0, none⟩)) (hr : a.tmps.getD r undef = .bool ok) (hd : a.defers = [])
    (hg : PosAt w g x y) (hg' : PosAt w g' x' y') (hQ : Q (.returned (.tuple #[.agg #[.int .i64 x, .int .i64 y], .agg #[.int .i64 x', .int .i64 y'], .bool ok])) w) : bodyPost Try.prog fn Q Exit.ret a w := by
  have hp' : a.tmps[p]?.getD undef = .pointer (some ⟨g, 0, none⟩) := by simpa using hp
  have hq' : a.tmps[q]?.getD undef = .pointer (some ⟨g', 0, none⟩) := by simpa using hq
  have hr' : a.tmps[r]?.getD undef = .bool ok := by simpa using hr
  refine bodyPost_ret ?_ hd hQ
  have h0 := hg.c0
  have h1 := hg.c1
  have h2 := hg'.c0
  have h3 := hg'.c1
  clear hg hg'
  simp only [results, h]
  go_simp
/-- The place, the answer's two variables. -/
structure Ef (w W : World) (x y : Int) : Prop where
  pos : PosAt W w.heap.size x y
  r1 : PosAt W (w.heap.size + 1) 0 0
  r2 : PosAt W (w.heap.size + 2) 0 0
  below : Below w.heap.size w W
theorem Ef.on {w W W' : World} {x y : Int} (h : Ef w W x y) (hb : Below W.heap.size W W') : Ef w W' x y :=
  ⟨h.pos.below hb h.pos.lt, h.r1.below hb h.r1.lt, h.r2.below hb h.r2.lt, h.below.trans (hb.mono h.below.size)⟩
def put4 (V : World) (A : Nat) (a b c d : Int) : World := (((V.setCell ⟨A + 1, 0, none⟩ (.int .i64 a)).setCell ⟨A + 1, 1, none⟩ (.int .i64 b)).setCell ⟨A + 2, 0, none⟩ (.int .i64 c)).setCell ⟨A + 2, 1, none⟩ (.int .i64 d)
theorem Ef.ret {w W : World} {x y : Int} (h : Ef w W x y) (a b c d : Int) : PosAt (put4 W w.heap.size a b c d) (w.heap.size + 1) a b ∧ PosAt (put4 W w.heap.size a b c d) (w.heap.size + 2) c d ∧ Below w.heap.size w (put4 W w.heap.size a b c d) :=
  ⟨PosAt.other (PosAt.other (So.set2 h.r1) (by omega)) (by omega), So.set2 (PosAt.other (PosAt.other h.r2 (by omega)) (by omega)),
   (((h.below.setCell (p := ⟨w.heap.size + 1, 0, none⟩) (by simp) _).setCell (p := ⟨w.heap.size + 1, 1, none⟩) (by simp) _).setCell (p := ⟨w.heap.size + 2, 0, none⟩) (by simp) _).setCell (p := ⟨w.heap.size + 2, 1, none⟩) (by simp) _⟩
theorem dnc_cons {o : Nat} {p : P2} {Pp : List PP} {c : Cell} {L : List Cell} : dnc o p Pp (c :: L) = (match dcf o p Pp c with | some x => x :: dnc o p Pp L | none => dnc o p Pp L) := by
  unfold dnc
  rw [List.filterMap_cons]
  cases dcf o p Pp c <;> rfl
theorem dcf_no {o : Nat} {p : P2} {Pp : List PP} {c : Cell} (h : c.2.toNat ≠ o) : dcf o p Pp c = none := if_neg (fun hh => h hh.1)
theorem dcf_behind {o : Nat} {p : P2} {Pp : List PP} {c : Cell} (h : lp p c.1 = true) : dcf o p Pp c = none := if_neg (fun hh => by rw [h] at hh; cases hh.2)
theorem dcf_at {o : Nat} {p : P2} {Pp : List PP} {c : Cell} (h : c.2.toNat = o) (h2 : lp p c.1 = false) : dcf o p Pp c = (match ptn c.1 Pp with | some m => if lp m p = true then none else some (c.1, m) | none => none) := if_pos ⟨h, h2⟩
theorem dnc_skip {o : Nat} {p : P2} {Pp : List PP} {L M : List Cell} (h : ∀ c ∈ L, lp p c.1 = true) : dnc o p Pp (L ++ M) = dnc o p Pp M := by
  unfold dnc
  rw [List.filterMap_append]
  have : List.filterMap (dcf o p Pp) L = [] := List.filterMap_eq_nil_iff.2 fun c hc => by
    unfold dcf; rw [if_neg (fun hh => by rw [h c hc] at hh; cases hh.2)]
  rw [this]; rfl
/-- What the document counts, from the line of the place on upwards. -/
theorem enc_scan {ls : List ByteArray} {i k b : Nat} (hi : i < ls.length) (hk : k ≤ (lineAt ls i).size) (hb : kB b = true) : enc (i, k) (P ls b) = dnc b (i, k) (P ls b) (bfr ls (i + 1) 0).reverse := by
  obtain ⟨hI, hO⟩ := kB_facts hb
  have h1 := enc_dnc (o := kO b) (s := kS b) (kI_facts hI).1 (Cs_sorted ls) (i, k)
  rw [hO] at h1
  have h2 : P ls b = prs b (kS b) [] (Cs ls) := by unfold P; rw [hO]
  rw [h2, h1]
  have hC := Cs_cut (ls := ls) (i := i) (k := (lineAt ls i).size) hi (Nat.le_refl _)
  have h3 : (Cs ls).reverse = (afr ls i (lineAt ls i).size).reverse ++ (bfr ls i (lineAt ls i).size).reverse := by rw [hC, List.reverse_append]
  rw [bfr_line, h3]
  refine dnc_skip fun c hc => ?_
  have hc := List.mem_reverse.1 hc
  rw [afr_line hi rfl] at hc
  unfold afr So.rst at hc
  have hc := List.mem_of_mem_drop hc
  unfold So.cells at hc
  obtain ⟨x, hx, hc⟩ := List.mem_flatMap.1 hc
  unfold So.enr at hx
  obtain ⟨j, hj, rfl⟩ := List.mem_map.1 hx
  have := (lcell_mem hc).1
  exact lp_iff.2 (.inl (by simp only at this ⊢; omega))

set_option maxHeartbeats 16000000 in
theorem encl5_any (a : Option Addr) (n c' : Nat) (ls : List ByteArray) (l c : Int) (b : Nat) (nn : Int) (w : World) (h : Ss w a n c' ls) (hs : ∀ s ∈ ls, s.size ≤ 140737488355328) (hn6 : n ≤ 1000000) (htz : tz ls ≤ 900000) (hnn : nn ≤ 9223372036854775807) :
    Calls Try.prog 18 #[.slice a n c', .agg #[.int .i64 l, .int .i64 c], .int .u8 b, .int .i64 nn] w fun e w' => e = .returned (eU (eW (enV ls l c b nn))) ∧ Below w.heap.size w w' := by
  have hlen := h.length
  have hn := h.le63
  obtain ⟨o, ho⟩ : ∃ o, o = kO b := ⟨_, rfl⟩
  obtain ⟨s, hss⟩ : ∃ s, s = kS b := ⟨_, rfl⟩
  obtain ⟨op, hop⟩ : ∃ op, op = kB b := ⟨_, rfl⟩
  obtain ⟨q, hq⟩ : ∃ q, q = kI b := ⟨_, rfl⟩
  have hkd : ∀ W, Calls Try.prog 25 #[.int .u8 b] W fun e w' => e = .returned (.tuple #[.int .u8 o, .int .u8 s, .bool op, .bool q]) ∧ W = w' := fun W => by
    have := kind5_any b W
    unfold kV at this
    rw [← ho, ← hss, ← hop, ← hq] at this
    exact this
  obtain ⟨X, hX⟩ : ∃ X, X = ((w.alloc (.cells #[.int .i64 l, .int .i64 c] 24)).alloc (.cells #[.int .i64 0, .int .i64 0] 24)).alloc (.cells #[.int .i64 0, .int .i64 0] 24) := ⟨_, rfl⟩
  obtain ⟨_, e0, e1, e2, hbX⟩ := three_rows w (.cells #[.int .i64 l, .int .i64 c] 24) (.cells #[.int .i64 0, .int .i64 0] 24) (.cells #[.int .i64 0, .int .i64 0] 24)
  rw [← hX] at e0 e1 e2 hbX
  have hE : Ef w X l c := ⟨e0, e1, e2, hbX⟩
  have HX := Lib.hid hX
  have h1 := may_any a n c' ls l c nn X (SrcV.below h hbX)
  have p0 := hE.pos.c0
  have p1 := hE.pos.c1
  clear e0 e1 e2 hbX hX
  by_cases hp : Plc ls l c ∧ 1 ≤ nn
  rotate_left
  · have hr : enV ls l c b nn = none := if_neg (fun hh => hp hh.1)
    rw [hr]
    rw [decide_eq_false hp] at h1
    clear hr hp h ho hss hop hq
    go_enter Try.func18, Try.ntmps18
    go_wp2_with fail
    rw [← HX.out]
    refine (hkd _).mono ?_
    rintro e w' ⟨rfl, rfl⟩
    clear hkd
    go_wp2_with fail
    refine h1.mono ?_
    rintro e w1 ⟨rfl, hb1⟩
    have E1 := hE.on hb1
    clear p0 p1 h1 hb1 hE
    have p0 := E1.pos.c0
    have p1 := E1.pos.c1
    have a0 := E1.r1.c0
    have a1 := E1.r1.c1
    have a2 := E1.r2.c0
    have a3 := E1.r2.c1
    have y0 := fun k => frozen_of_row w1 (w.heap.size + 1) k _ _ E1.r1
    have y1 := fun k => frozen_of_row w1 (w.heap.size + 2) k _ _ E1.r2
    go_wp2
    obtain ⟨g1, g2, g3⟩ := E1.ret 0 0 0 0
    exact ret_ppt (g := w.heap.size + 1) (g' := w.heap.size + 2) rfl rfl rfl rfl rfl g1 g2 ⟨rfl, g3⟩
  rw [decide_eq_true hp] at h1
  cases op with
  | false =>
    have hr : enV ls l c b nn = none := if_neg (fun hh => by rw [← hop] at hh; cases hh.2)
    rw [hr]
    clear hr hp h ho hss hop hq
    go_enter Try.func18, Try.ntmps18
    go_wp2_with fail
    rw [← HX.out]
    refine (hkd _).mono ?_
    rintro e w' ⟨rfl, rfl⟩
    clear hkd
    go_wp2_with fail
    refine h1.mono ?_
    rintro e w1 ⟨rfl, hb1⟩
    have E1 := hE.on hb1
    clear p0 p1 h1 hb1 hE
    have p0 := E1.pos.c0
    have p1 := E1.pos.c1
    have a0 := E1.r1.c0
    have a1 := E1.r1.c1
    have a2 := E1.r2.c0
    have a3 := E1.r2.c1
    have y0 := fun k => frozen_of_row w1 (w.heap.size + 1) k _ _ E1.r1
    have y1 := fun k => frozen_of_row w1 (w.heap.size + 2) k _ _ E1.r2
    go_wp2
    obtain ⟨g1, g2, g3⟩ := E1.ret 0 0 0 0
    exact ret_ppt (g := w.heap.size + 1) (g' := w.heap.size + 2) rfl rfl rfl rfl rfl g1 g2 ⟨rfl, g3⟩
  | true =>
    obtain ⟨hp, hn1⟩ := hp
    obtain ⟨i, k, rfl, rfl, hi, hk⟩ := hp.nat
    obtain ⟨m, rfl⟩ : ∃ m : Nat, nn = m := ⟨nn.toNat, by omega⟩
    have hm1 : 1 ≤ m := by omega
    have hm63 : m ≤ 9223372036854775807 := by omega
    obtain ⟨r, hr⟩ : ∃ r, r = enV ls i k b m := ⟨_, rfl⟩
    rw [← hr]
    rw [show enV ls i k b m = (enL ls i k b)[m - 1]? from if_pos ⟨⟨hp, hn1⟩, hop.symm⟩] at hr
    rw [show enL ls i k b = enc (i, k) (P ls b) from rfl, enc_scan hi hk hop.symm] at hr
    have hot := fun W (hW : Below w.heap.size w W) (L j : Nat) (hL : L < n) (hj : j < (lineAt ls L).size) (hb : bt (lineAt ls L) j = b) => other_any a n c' ls L j W (SrcV.below h hW) hs hn6 htz hL hj (by rw [hb]; exact (kB_facts hop.symm).1)
    have HOT := Lib.hid hot
    have HR := Lib.hid hr
    have HS := Lib.hid h
    have hin : i < n := by omega
    clear hr hp hn1 h ho hss hop hq hot hnn hk
    go_enter Try.func18, Try.ntmps18
    go_wp2_with fail
    rw [← HX.out]
    refine (hkd _).mono ?_
    rintro e w' ⟨rfl, rfl⟩
    clear hkd
    go_wp2_with fail
    refine h1.mono ?_
    rintro e w1 ⟨rfl, hb1⟩
    have E1 := hE.on hb1
    clear p0 p1 h1 hb1 hE
    have p0 := E1.pos.c0
    have p1 := E1.pos.c1
    have a0 := E1.r1.c0
    have a1 := E1.r1.c1
    have a2 := E1.r2.c0
    have a3 := E1.r2.c1
    have y0 := fun k => frozen_of_row w1 (w.heap.size + 1) k _ _ E1.r1
    have y1 := fun k => frozen_of_row w1 (w.heap.size + 2) k _ _ E1.r2
    have HE1 := Lib.hid E1
    go_wp2
    clear p0 p1 a0 a1 a2 a3 y0 y1 E1
    obtain ⟨PP, hPP⟩ : ∃ PP, PP = P ls b := ⟨_, rfl⟩
    rw [← hPP] at HR
    have HPP := Lib.hid hPP
    clear hPP
    go_loopw [3, 15] (fun u3 u15 wr => ∃ (N T : Nat), 1 ≤ N ∧ N ≤ 9223372036854775807 ∧ T ≤ n ∧ u3 = .int .i64 N ∧ u15 = .int .i64 ((T : Int) - 1) ∧ Hid (Ef w wr i k ∧ r = (dnc b (i, k) PP (bfr ls T 0).reverse)[N - 1]?)) (fun _ u15 _ => (RowKit.intOf u15 + 1).toNat)
    case atStart => exact ⟨m, i + 1, hm1, hm63, by omega, rfl, by go_num, HE1.out, HR.out⟩
    case round =>
      clear HE1 HR hm1 hm63
      obtain ⟨N, T, hN1, hN63, hTn, rfl, rfl, hQ⟩ := hrel
      by_cases hT0 : 0 < T
      rotate_left
      · obtain rfl : T = 0 := by omega
        obtain ⟨hE, hr⟩ := hQ.out
        have hrn : r = none := by rw [hr, bfr_zero]; rfl
        have HRN := Lib.hid hrn
        have p0 := hE.pos.c0
        have p1 := hE.pos.c1
        have a0 := hE.r1.c0
        have a1 := hE.r1.c1
        have a2 := hE.r2.c0
        have a3 := hE.r2.c1
        have y0 := fun k => frozen_of_row wr (w.heap.size + 1) k _ _ hE.r1
        have y1 := fun k => frozen_of_row wr (w.heap.size + 2) k _ _ hE.r2
        clear hQ hr hrn
        go_wp2
        obtain ⟨g1, g2, g3⟩ := hE.ret 0 0 0 0
        exact ret_ppt (g := w.heap.size + 1) (g' := w.heap.size + 2) rfl rfl rfl rfl rfl g1 g2 ⟨by rw [HRN.out]; rfl, g3⟩
      obtain ⟨L, rfl⟩ : ∃ L, T = L + 1 := ⟨T - 1, by omega⟩
      have hLn : L < n := by omega
      rw [show (((L + 1 : Nat) : Int) - 1) = (L : Int) by omega]
      obtain ⟨st, hst⟩ : ∃ st, st = lineAt ls L := ⟨_, rfl⟩
      have hz : st.size ≤ 140737488355328 := by rw [hst, lineAt_get (by omega)]; exact hs _ (List.getElem_mem _)
      obtain ⟨ab, ao, rfl, hcx, hnc, _⟩ := HS.out.read L (by omega)
      rw [← lineAt_get (ls := ls) (k := L) (by omega), ← hst] at hcx
      obtain ⟨hE, hr⟩ := hQ.out
      rw [bfr_line, ← hst] at hr
      have c1 := cell_later hE.below hcx
      have HC := Lib.hid hcx
      have HE := Lib.hid hE
      have HR := Lib.hid hr
      have HST := Lib.hid hst
      obtain ⟨Z, hZ⟩ : ∃ Z, Z = (st.size : Int) - 1 := ⟨_, rfl⟩
      have hwZ : IntKind.i64.wrap ((st.size : Int) - 1) = Z := by rw [IntKind.wrap_i64]; omega
      have HZ := Lib.hid hZ
      clear hQ hE hr hcx hst hZ hT0
      go_wp2
      clear c1
      go_loopw [3, 16] (fun u3 u16 ws => ∃ (M Q : Nat), 1 ≤ M ∧ M ≤ 9223372036854775807 ∧ Q ≤ st.size ∧ u3 = .int .i64 M ∧ u16 = .int .i64 ((Q : Int) - 1) ∧ Hid (Ef w ws i k ∧ r = (dnc b (i, k) PP (bfr ls L Q).reverse)[M - 1]?)) (fun _ u16 _ => (RowKit.intOf u16 + 1).toNat)
      case atStart => exact ⟨N, st.size, hN1, hN63, Nat.le_refl _, rfl, by rw [HZ.out], HE.out, HR.out⟩
      case round =>
        clear HE HR hwZ HZ hN1 hN63
        obtain ⟨M, Q, hM1, hM63, hQs, rfl, rfl, hQQ⟩ := hrel
        by_cases hQ0 : 0 < Q
        rotate_left
        · obtain rfl : Q = 0 := by omega
          have hwL : IntKind.i64.wrap ((L : Int) - 1) = (L : Int) - 1 := by rw [IntKind.wrap_i64]; omega
          clear hQ0
          go_wp2
          go_roundw
          case rel => exact ⟨M, L, hM1, hM63, by omega, rfl, rfl, hQQ⟩
          case measure => simp [RowKit.intOf]
        obtain ⟨qq, rfl⟩ : ∃ q, Q = q + 1 := ⟨Q - 1, by omega⟩
        rw [show (((qq + 1 : Nat) : Int) - 1) = (qq : Int) by omega]
        have hqs : qq < st.size := by omega
        have hql : qq < (lineAt ls L).size := by rw [← HST.out]; exact hqs
        obtain ⟨hE, hr⟩ := hQQ.out
        rw [bfr_succ hql, List.reverse_append, List.reverse_singleton, List.singleton_append, dnc_cons] at hr
        have hwq : IntKind.i64.wrap ((qq : Int) - 1) = (qq : Int) - 1 := by rw [IntKind.wrap_i64]; omega
        obtain ⟨y, hy⟩ : ∃ y, y = bt st qq := ⟨_, rfl⟩
        have hyl : ((lineAt ls L)[qq]'hql).toNat = y := by rw [bt_at, hy, HST.out]
        have hys : ((st[qq]'hqs).toNat) = y := by rw [bt_at, hy]
        obtain ⟨x1, hx1⟩ : ∃ x, x = wr.alloc (.cells #[.int .i64 (L : Int), .int .i64 (qq : Int)] 24) := ⟨_, rfl⟩
        have hb1 : Below wr.heap.size wr x1 := by rw [hx1]; exact (Below.refl _ _).alloc (Nat.le_refl _) _
        have hG := PosAt.new wr L qq
        rw [← hx1] at hG
        have E1 := hE.on hb1
        obtain ⟨B, hB⟩ : ∃ B, B = (lineAt ls L)[qq]'hql := ⟨_, rfl⟩
        rw [← hB] at hr
        have hBy : B.toNat = y := by rw [hB]; exact hyl
        have HX1 := Lib.hid hx1
        have HRR := Lib.hid hr
        have HBY := Lib.hid hBy
        have c1 := cell_later E1.below HC.out
        have g0 := hG.c0
        have g1 := hG.c1
        have p0 := E1.pos.c0
        have p1 := E1.pos.c1
        have HE1 := Lib.hid E1
        have HG := Lib.hid hG
        clear hQQ hE hr hx1 hb1 hG E1 hyl hB hBy hQ0
        go_upto_region 11 with fail
        rw [← HX1.out]
        by_cases hyb : y = b
        rotate_left
        · have e1 : (((st[qq]'hqs).toNat : Int) == (b : Int)) = false := by rw [hys, beq_eq_false_iff_ne]; omega
          have e2 : (((st[qq]'hqs).toNat : Int) != (b : Int)) = true := by rw [bne_iff_ne, hys]; omega
          have hn := HRR.out
          rw [dcf_no (by rw [HBY.out]; exact hyb)] at hn
          have HN := Lib.hid hn
          clear hys hy hn hyb
          go_wp2
          go_roundw
          case rel => exact ⟨M, qq, hM1, hM63, by omega, rfl, rfl, HE1.out, HN.out⟩
          case measure => simp [RowKit.intOf]
        have e1 : (((st[qq]'hqs).toNat : Int) == (b : Int)) = true := by rw [hys, beq_iff_eq]; omega
        have e2 : (((st[qq]'hqs).toNat : Int) != (b : Int)) = false := by rw [bne_eq_false_iff_eq, hys]; omega
        have hls := So.less5_any i k L qq x1
        have hbt : bt (lineAt ls L) qq = b := by rw [← HST.out, ← hy]; exact hyb
        have HBT := Lib.hid hbt
        have HYB := Lib.hid hyb
        clear hys hy hyb hbt
        cases hlp : lp (i, k) (L, qq)
        rotate_left
        · rw [show So.lt i k L qq = true from hlp] at hls
          have hn := HRR.out
          rw [dcf_behind hlp] at hn
          have HN := Lib.hid hn
          clear hn hlp
          go_wp2_with fail
          refine hls.mono ?_
          rintro e x2 ⟨rfl, hb2⟩
          have E2 := HE1.out.on hb2
          clear hls c1 g0 g1 p0 p1
          go_wp2
          go_roundw
          case rel => exact ⟨M, qq, hM1, hM63, by omega, rfl, rfl, E2, HN.out⟩
          case measure => simp [RowKit.intOf]
        rw [show So.lt i k L qq = false from hlp] at hls
        have hd := HRR.out
        rw [dcf_at (HBY.out.trans HYB.out) hlp] at hd
        have HD := Lib.hid hd
        clear hd hlp
        go_wp2_with fail
        refine hls.mono ?_
        rintro e x2 ⟨rfl, hb2⟩
        have E2 := HE1.out.on hb2
        have G2 := HG.out.below hb2 HG.out.lt
        have hoc := HOT.out x2 E2.below L qq hLn hql HBT.out
        rw [HBT.out, ← HPP.out] at hoc
        have g0' := G2.c0
        have g1' := G2.c1
        have HE2 := Lib.hid E2
        have HG2 := Lib.hid G2
        clear hls c1 g0 g1 p0 p1 hb2 E2 G2 HE1 HG
        cases hpt : ptn (L, qq) PP with
        | none =>
          have hn := HD.out
          rw [hpt] at hn hoc
          dsimp only [oV, nthU] at hoc
          have HN := Lib.hid hn
          clear hn hpt
          go_wp2_with fail
          refine hoc.mono ?_
          rintro e x3 ⟨rfl, hb3⟩
          have E3 := (HE2.out.on hb3).on ((Below.refl _ x3).alloc (Nat.le_refl _) (.cells #[.int .i64 0, .int .i64 0] 24))
          clear hoc g0' g1' hb3
          go_wp2
          go_roundw
          case rel => exact ⟨M, qq, hM1, hM63, by omega, rfl, rfl, E3, HN.out⟩
          case measure => simp [RowKit.intOf]
        | some mm =>
          have hn := HD.out
          rw [hpt] at hn hoc
          dsimp only [oV, nthU] at hoc hn
          have HN0 := Lib.hid hn
          clear hn hpt
          go_wp2_with fail
          refine hoc.mono ?_
          rintro e x3 ⟨rfl, hb3⟩
          obtain ⟨x4, hx4⟩ : ∃ x, x = x3.alloc (.cells #[.int .i64 mm.1, .int .i64 mm.2] 24) := ⟨_, rfl⟩
          have hb4 : Below x3.heap.size x3 x4 := by rw [hx4]; exact (Below.refl _ _).alloc (Nat.le_refl _) _
          have hG4 := PosAt.new x3 mm.1 mm.2
          rw [← hx4] at hG4
          have E4 := (HE2.out.on hb3).on hb4
          have G4 := (HG2.out.below hb3 HG2.out.lt).below hb4 (HG2.out.below hb3 HG2.out.lt).lt
          have hx3 : w.heap.size + 2 < x3.heap.size := Nat.lt_of_lt_of_le HE2.out.r2.lt hb3.size
          clear hoc g0' g1' hb3 hb4
          go_upto_region 13 with fail
          rw [← hx4]
          have g0 := hG4.c0
          have g1 := hG4.c1
          have p0 := E4.pos.c0
          have p1 := E4.pos.c1
          have hls := So.less5_any mm.1 mm.2 i k x4
          have HE4 := Lib.hid E4
          have HG4 := Lib.hid (And.intro G4 hG4)
          clear hx4 hG4 E4 G4
          cases hlq : lp mm (i, k)
          rotate_left
          · rw [show So.lt mm.1 mm.2 i k = true from hlq] at hls
            have hn := HN0.out
            rw [if_pos hlq] at hn
            have HN := Lib.hid hn
            clear hn hlq
            go_wp2_with fail
            refine hls.mono ?_
            rintro e x5 ⟨rfl, hb5⟩
            have E5 := HE4.out.on hb5
            clear hls g0 g1 p0 p1 hb5
            go_wp2
            go_roundw
            case rel => exact ⟨M, qq, hM1, hM63, by omega, rfl, rfl, E5, HN.out⟩
            case measure => simp [RowKit.intOf]
          rw [show So.lt mm.1 mm.2 i k = false from hlq] at hls
          have hn := HN0.out
          rw [if_neg (by rw [hlq]; simp)] at hn
          dsimp only at hn
          clear hlq
          obtain ⟨M', rfl⟩ : ∃ M', M = M' + 1 := ⟨M - 1, by omega⟩
          have hwM : IntKind.i64.wrap (((M' + 1 : Nat) : Int) - 1) = (M' : Int) := by rw [IntKind.wrap_i64]; omega
          obtain ⟨Y, hY⟩ : ∃ Y : Nat, Y = M' + 1 := ⟨_, rfl⟩
          rw [← hY] at hwM ⊢
          have HY := Lib.hid hY
          by_cases hM0 : M' = 0
          · have d1 : ((M' : Int) == 0) = true := by rw [beq_iff_eq]; omega
            have hrs : r = some ((L, qq), mm) := by rw [hn, hM0]; rfl
            have HRS := Lib.hid hrs
            clear hM0 hn hrs hY hM1 hM63
            go_wp2_with fail
            refine hls.mono ?_
            rintro e x5 ⟨rfl, hb5⟩
            have E5 := HE4.out.on hb5
            have G5 := HG4.out.1.below hb5 HG4.out.1.lt
            have K5 := HG4.out.2.below hb5 HG4.out.2.lt
            clear hls g0 g1 p0 p1 hb5
            have p0 := E5.pos.c0
            have p1 := E5.pos.c1
            have a0 := E5.r1.c0
            have a1 := E5.r1.c1
            have a2 := E5.r2.c0
            have a3 := E5.r2.c1
            have y0 := fun k => frozen_of_row x5 (w.heap.size + 1) k _ _ E5.r1
            have y1 := fun k => frozen_of_row x5 (w.heap.size + 2) k _ _ E5.r2
            have g0 := G5.c0
            have g1 := G5.c1
            have g2 := K5.c0
            have g3 := K5.c1
            have K6 : PosAt ((x5.setCell ⟨w.heap.size + 1, 0, none⟩ (.int .i64 L)).setCell ⟨w.heap.size + 1, 1, none⟩ (.int .i64 qq)) x3.heap.size mm.1 mm.2 := (So.set2_other (by omega)).trans K5
            have k0 := K6.c0
            have k1 := K6.c1
            go_wp2
            go_region
            all_goals go_wp2
            all_goals
              obtain ⟨u1, u2, u3⟩ := E5.ret L qq mm.1 mm.2
              unfold put4 at u1 u2 u3
              refine ret_ppt (g := w.heap.size + 1) (g' := w.heap.size + 2) (x := L) (y := qq) (x' := mm.1) (y' := mm.2) (ok := true) rfl rfl rfl rfl rfl (pos_drew u1) (pos_drew u2) ?_
              exact ⟨by rw [HRS.out]; rfl, u3.drew⟩
          · have d1 : ((M' : Int) == 0) = false := by rw [beq_eq_false_iff_ne]; omega
            have hrs : r = (dnc b (i, k) PP (bfr ls L qq).reverse)[M' - 1]? := by
              rw [hn]
              obtain ⟨z, hz⟩ : ∃ z, M' = z + 1 := ⟨M' - 1, by omega⟩
              rw [hz]; simp
            have HN := Lib.hid hrs
            have hM1' : 1 ≤ M' := by omega
            have hM63' : M' ≤ 9223372036854775807 := by omega
            clear hM0 hn hrs hY hM1 hM63
            go_wp2_with fail
            refine hls.mono ?_
            rintro e x5 ⟨rfl, hb5⟩
            have E5 := HE4.out.on hb5
            clear hls g0 g1 p0 p1 hb5
            go_wp2
            go_roundw
            case rel => exact ⟨M', qq, hM1', hM63', by omega, rfl, rfl, E5, HN.out⟩
            case measure => simp [RowKit.intOf]
end Go.Proofs.Ytbimblfkkmpieaa.Pr
