/-
  The document's Apply, where each change fits.
-/
import Derived.Test.YtkddnknjjdenhaaEdn
set_option linter.unusedVariables false
set_option linter.unusedSimpArgs false
set_option maxRecDepth 100000
namespace Go.Proofs.Ytkddnknjjdenhaa.Ed
open Go Go.RowKit Go.Proofs.Ytkddnknjjdenhaa.Vk Go.Proofs.Ytkddnknjjdenhaa.Str Go.Proofs.Ytkddnknjjdenhaa.Ln Go.Proofs.Ytkddnknjjdenhaa.Cl Go.Proofs.Ytkddnknjjdenhaa.Mv
attribute [local go_sem] Oper.semAt_some

theorem same19_any (a : Option Addr) (n c : Nat) (x : List ByteArray) (a' : Option Addr) (n' c' : Nat) (y : List ByteArray) (w : World) (h : Ss w a n c x) (h' : Ss w a' n' c' y) :
    Calls Try.prog 61 #[.slice a n c, .slice a' n' c'] w fun e w' => e = .returned (.bool (decide (x = y))) ∧ ∃ m, w' = w.drewN m := by
  have hl := h.length
  have hl' := h'.length
  have hn := h.le63
  have hn' := h'.le63
  by_cases hne : n = n'
  · subst hne
    go_enter Try.func61, Try.ntmps61
    go_wp2
    go_loopw [5] (fun i wr => ∃ k : Nat, k ≤ n ∧ i = .int .i64 k ∧ Hid (x.take k = y.take k) ∧ Hid (∃ m, wr = w.drewN m)) (fun i _ => n - (RowKit.intOf i).toNat)
    case atStart => exact ⟨0, Nat.zero_le _, rfl, by simp [Hid], 0, rfl⟩
    case round =>
      obtain ⟨k, hk, rfl, hst, hw⟩ := hrel
      by_cases hkn : k < n
      · obtain ⟨m, rfl⟩ := hw.out
        obtain ⟨b, o, rfl, hc, hnc, _⟩ := h.read k (by omega)
        obtain ⟨b', o', rfl, hc', hnc', _⟩ := h'.read k (by omega)
        by_cases he : x[k]'(by omega) = y[k]'(by omega)
        · have hts := take_same (by omega) (by omega) hst.out he
          have HT := Lib.hid hts
          rw [← he] at hc'
          clear h h' hts he
          generalize x[k]'(by omega) = st at *
          go_wp2
          go_quiet (fail)
          go_wp2
          go_roundw
          case rel => exact ⟨k + 1, by omega, by go_num, HT, m + nq, rfl⟩
          case measure => simp [RowKit.intOf]; omega
        · have hns := not_same (x := x) (y := y) (by omega) (by omega) he
          have hse := str_ne he
          have HN := Lib.hid hns
          clear h h' hns he
          generalize x[k]'(by omega) = st at *
          generalize y[k]'(by omega) = st' at *
          go_wp2
          go_quiet (fail)
          go_wp2
          go_ret
          exact ⟨by rw [HN.out]; rfl, m + nq, World.drewN_drewN _ _ _⟩
      · obtain rfl : k = n := by omega
        obtain ⟨m, rfl⟩ := hw.out
        have hxy : x = y := by have := hst.out; rwa [List.take_of_length_le (by omega), List.take_of_length_le (by omega)] at this
        have HXY := Lib.hid hxy
        clear h h' hxy hst
        go_wp2
        go_ret
        exact ⟨by rw [decide_eq_true HXY.out]; rfl, m, rfl⟩
  · have hd : decide (x = y) = false := decide_eq_false fun e => hne (by rw [← hl, ← hl', e])
    have hz : ((n : Int) == n') = false := by rw [beq_eq_false_iff_ne]; omega
    have HD := Lib.hid hd
    clear h h' hd
    go_enter Try.func61, Try.ntmps61
    go_wp2
    go_ret
    exact ⟨by rw [HD.out]; rfl, 0, rfl⟩

/-- Lines i to t are replaced. -/
def apl (ls : List ByteArray) (i t : Nat) (yl : List ByteArray) : List ByteArray := (ls.take i ++ yl) ++ ls.drop (t + 1)
def LbOut (w : World) (L : List ByteArray) (e : Ending) (w' : World) : Prop := ∃ (a : Option Addr) (c : Nat), e = .returned (.tuple #[.slice a L.length c, .bool true]) ∧ Ss w' a L.length c L ∧ Below w.heap.size w w'
theorem exec_append {P : Program} {o : Oper} {a : Act} {W W' : World} {s x : Operand} {t : TypeId} {v xv u : Value} (ho : o.op = .call { callee := .builtin .append, args := #[s, x], argTypes := #[t, t] }) (hs : a.eval s = v) (hx : a.eval x = xv)
    (hr : (Builtin.append_ #[t, t] o.type #[v, xv]).run P W = .ok u W') : (execOp a.eval o).run P W = .ok (.value u) W' := by
  simp [execOp, ho, resolve, invoke, builtin, hs, hx, hr, Result.andThen]
/-- The lines from k on, as the program cuts them. -/
theorem tail_src {w : World} {b o n c k : Nat} {ls : List ByteArray} (h : Ss w (some ⟨b, o, none⟩) n c ls) (hk : k ≤ n) : ∃ A : Addr, (if c = k then (some ⟨b, o, none⟩ : Option Addr) else some ⟨b, o + k, none⟩) = some A ∧ Ss w (some A) (n - k) (c - k) (ls.drop k) := by
  obtain ⟨A, h1, h2⟩ := SrcV.drop h hk
  refine ⟨A, h1, ?_⟩
  unfold Ss
  rw [List.map_drop]
  exact h2

set_option maxHeartbeats 4000000 in
theorem one_yes (a : Option Addr) (n c' : Nat) (ls : List ByteArray) (i t : Nat) (oa : Option Addr) (on oc : Nat) (na : Option Addr) (nn nc : Nat) (yl : List ByteArray) (w : World) (h : Ss w a n c' ls) (hx : CW w (i, (oa, on, oc), (na, nn, nc)) (i, cutL ls i t, yl))
    (hit : i ≤ t) (htn : t < n) (hn : n ≤ 1000000) (h0 : 0 < nn) (hnn : nn ≤ 1000000) :
    Calls Try.prog 42 #[.slice a n c', .agg #[.int .i64 i, .slice oa on oc, .slice na nn nc]] w fun e w' => LbOut w (apl ls i t yl) e w' := by
  obtain ⟨i0, hi0, hz0, hz1, hz2⟩ := info_parts infoS
  have hlen := h.length
  obtain ⟨hx0, hxo, hxn⟩ := hx
  clear hx0
  have hon : on = t + 1 - i := by have := Ss.length hxo; rw [cutL_length hit (by omega)] at this; simp only at this; omega
  have hnl : yl.length = nn := Ss.length hxn
  obtain ⟨b, o, rfl, hx0, hx1, hx2⟩ := Ss.read h 0 (by omega)
  clear hx0 hx1 hx2
  obtain ⟨hc1, hc2⟩ := cap_src h (by omega)
  obtain ⟨m, hm⟩ : ∃ m, m = t + 1 - i := ⟨_, rfl⟩
  have hti : t + 1 = i + m := by omega
  have hm0 : 0 < m := by omega
  obtain ⟨X, hX⟩ : ∃ X, X = w.alloc (.cells #[.int .i64 i, .slice oa on oc, .slice na nn nc] TC) := ⟨_, rfl⟩
  have hb : Below w.heap.size w X := by rw [hX]; exact one_below _ _
  have hr : ChAt X w.heap.size (i, (oa, on, oc), (na, nn, nc)) := by rw [hX]; exact ChAt.new w (i, (oa, on, oc), (na, nn, nc))
  have f0 := fun z : Gr X => z.cell hr.c0
  have f1 : ∀ z : Gr X, z.W.cell? ⟨w.heap.size, 1, none⟩ = some (.slice oa on oc) := fun z => z.cell hr.c1
  have f2 : ∀ z : Gr X, z.W.cell? ⟨w.heap.size, 2, none⟩ = some (.slice na nn nc) := fun z => z.cell hr.c2
  have hcut := cut_src (SrcV.below h hb) hit htn
  have hso : Ss w oa on oc (cutL ls i t) := hxo
  have hsn : Ss w na nn nc yl := hxn
  have hsame := fun z : Gr X => same19_any (some ⟨b, o + i, none⟩) m (c' - i) (cutL ls i t) oa on oc (cutL ls i t) z.W (by rw [hm]; exact SrcV.below hcut z.below) (SrcV.below (SrcV.below hso hb) z.below)
  simp only [decide_true] at hsame
  have hsame := fun z : Gr X => (hsame z).mono fun e W ⟨he, q, hq⟩ => (⟨he, by rw [hq]; exact drewN_below _ _⟩ : e = Ending.returned (.bool true) ∧ Below z.W.heap.size z.W W)
  obtain ⟨A, hA, htail⟩ := tail_src (SrcV.below h hb) (show t + 1 ≤ n by omega)
  have hl1 : (ls.take i).length = i := by rw [List.length_take]; omega
  have hll : (apl ls i t yl).length = i + nn + (n - (t + 1)) := by
    unfold apl
    rw [List.length_append, List.length_append, hl1, hnl, List.length_drop, hlen]
  have hpre : Ss X (some ⟨b, o, none⟩) i c' (ls.take i) := by
    have := SrcV.take (SrcV.below h hb) (k := i) (by omega)
    unfold Ss
    rw [List.map_take]
    exact this
  have H := Lib.hid (And.intro (show X = w.alloc (.cells #[.int .i64 i, .slice oa on oc, .slice na nn nc] 31) from hX) (And.intro hb (And.intro hr (And.intro hpre (And.intro (SrcV.below hsn hb) (And.intro htail hll))))))
  rw [← hm] at hon
  subst hon
  rw [hti] at hA
  have HT := Lib.hid (And.intro hti hm)
  have g1 : decide ((i : Int) < 0) = false := decide_eq_false (by omega)
  have g2 : decide ((n : Int) < (i : Int)) = false := decide_eq_false (by omega)
  have g2' : decide (n < i) = false := decide_eq_false (by omega)
  have g3 : IntKind.i64.wrap ((n : Int) - (i : Int)) = (n : Int) - (i : Int) := by rw [IntKind.wrap_i64]; omega
  have g4 : decide ((n : Int) - (i : Int) < (on : Int)) = false := decide_eq_false (by omega)
  have g5 : IntKind.i64.wrap ((i : Int) + (on : Int)) = ((i + on : Nat) : Int) := by rw [IntKind.wrap_i64]; omega
  have g6 : ((i + on : Nat) : Int) ≤ (c' : Int) := by omega
  have g7 : (i : Int) ≤ ((i + on : Nat) : Int) := by omega
  have g8 : c' ≠ i := by omega
  have g9 : IntKind.i64.wrap ((n : Int) - (on : Int)) = (n : Int) - (on : Int) := by rw [IntKind.wrap_i64]; omega
  have g10 : IntKind.i64.wrap ((n : Int) - (on : Int) + (nn : Int)) = (n : Int) - (on : Int) + (nn : Int) := by rw [IntKind.wrap_i64]; omega
  have g11 : ((n : Int) - (on : Int) + (nn : Int) == 0) = false := by rw [beq_eq_false_iff_ne]; omega
  have g12 : (i : Int) ≤ (c' : Int) := by omega
  have g13 : i + on ≤ n := by omega
  have g14 : i ≤ 1000000 := by omega
  have g15 : (i : Int) ≤ (n : Int) := by omega
  clear hX hb hr h hso hsn hcut hxo hxn hpre htail hm hti hit
  go_enter Try.func42, Try.ntmps42
  go_wp2
  rw [← H.out.1]
  refine wp_region_grow (by kernel_rfl) (by kernel_rfl) ?_
  repeat (go_big_quiet_step (first | (go_at_call 61; exact Calls.grow_of (hsame _))))
  refine wpQuiet_nil ?_
  rintro w2 ⟨⟨w2', hb2⟩, he⟩
  simp only at he
  subst he
  clear hsame f0 f1 f2 g1 g2 g2' g3 g4 g9 g10 g11
  have hr2 := H.out.2.2.1.below hb2 H.out.2.2.1.lt
  have p0 := hr2.c0
  have p1 : w2.cell? ⟨w.heap.size, 1, none⟩ = some (.slice oa on oc) := hr2.c1
  have p2 : w2.cell? ⟨w.heap.size, 2, none⟩ = some (.slice na nn nc) := hr2.c2
  have HB := Lib.hid hb2
  have hsrc := Lib.hid (SrcV.below H.out.2.2.2.1 hb2)
  have hown0 := Lib.hid (World.ownsRow_nil w2 w2.heap.size ES 1)
  clear hr2 hb2
  go_wp2_with (at_builtin; go_must (refine append_srcv _ rfl _ _ 22 rfl w2.heap.size ES i0 (.string ⟨#[]⟩) 1 16 underS hi0 hz0 hz1 hz2 rfl (by decide) _ 0 [] rfl hown0.out _ i ((ls.take i).map .string) rfl hsrc.out (by simp only [maxLen]; omega) (by omega) (Nat.le_refl _) ?_); intro b3 c3 w3 hown hg hnr; have HO := Lib.hid (And.intro hown ((Below.refl _ w2).grown hg (Nat.le_refl _) (fun k e => by simp [Value.ownBlock, Act.eval] at e))); clear hown hg hnr)
  have own3 := HO.out.1
  have hb3 := HO.out.2
  simp only [Nat.zero_add, List.nil_append] at own3
  have hsz3 := hb3.size
  have p0 := cell_later hb3 p0
  have p1 := cell_later hb3 p1
  have p2 := cell_later hb3 p2
  have hlt : w.heap.size < w2.heap.size := by have := HB.out.size; have := H.out.2.2.1.lt; omega
  have HN := Lib.hid (SrcV.below H.out.2.2.2.2.1 (below_on HB.out hb3))
  have HTL := Lib.hid (SrcV.below H.out.2.2.2.2.2.1 (below_on HB.out hb3))
  have H3 := Lib.hid (And.intro own3 hb3)
  clear HO hsrc hown0 own3 hb3
  have F_0 := fun (C : World → Prop) (hC : Vs.Grows (fun j => w2.heap.size ≤ j) w3 C) (z : Vs.In C) => hC.cell p0 (by simp only; omega) z
  have F_1 := fun (C : World → Prop) (hC : Vs.Grows (fun j => w2.heap.size ≤ j) w3 C) (z : Vs.In C) => hC.cell p1 (by simp only; omega) z
  have F_2 := fun (C : World → Prop) (hC : Vs.Grows (fun j => w2.heap.size ≤ j) w3 C) (z : Vs.In C) => hC.cell p2 (by simp only; omega) z
  refine Vs.wp_region_seg (S := fun j => w2.heap.size ≤ j) [0, 1, 2, 4, 5, 6, 7, 8, 9, 10, 11] [(3, 1), (12, 1), (13, 2), (14, 2)] (by kernel_rfl) (by kernel_rfl) 75 rfl (by kernel_rfl) ?_
  simp only [List.map_cons, List.map_nil, Vs.opOf_succ, Vs.opOf_zero]
  apply Exists.intro
  refine ⟨fun C hC => ?_, ?_⟩
  · haveI hI := hC.one
    have f_0 := F_0 C hC
    have f_1 := F_1 C hC
    have f_2 := F_2 C hC
    repeat (go_big_quiet_step (fail))
    exact wpQuiet_nil rfl
  clear F_0 F_1 F_2
  rw [hA]
  clear p0 p1 p2
  refine Vs.wpPath_make rfl fun u0 hu0 => ?_
  obtain ⟨d1, e1', u1, hr1, own1, hg1, _⟩ := run_append_srcv (P := Try.prog) u0 22 22 w2.heap.size ES i0 (.string ⟨#[]⟩) 1 16 underS hi0 hz0 hz1 hz2 rfl (by decide) (.slice b3 i c3) i _ (ownsRow_fr H3.out.1 (Fr.ofBelow hu0 (fun _ => False)) (fun _ _ h => h)) _ nn _ (SrcV.below HN.out hu0) (by simp only [maxLen]; omega) (by omega) (Nat.le_trans hsz3 hu0.size)
  refine ⟨_, u1, rfl, by simp only [Vs.opOf_succ, Vs.opOf_zero]; exact exec_append rfl rfl rfl hr1, (Fr.refl _ u0).grown hg1 (fun k hk _ => (H3.out.1.lt k hk).1), ?_⟩
  simp only [Vs.opOf_succ, Vs.opOf_zero, Act.put, List.setIfInBounds_toArray, List.set_cons_zero, List.set_cons_succ]
  have FX : Fr (fun j => w2.heap.size ≤ j) w3 u1 := (Fr.ofBelow hu0 _).grown hg1 (fun k hk _ => (H3.out.1.lt k hk).1)
  clear hr1 hg1 hu0
  refine Vs.wpPath_make rfl fun u2 hu2 => ?_
  have FX := FX.trans (Fr.ofBelow hu2 _)
  have own1 := ownsRow_fr own1 (Fr.ofBelow hu2 (fun _ => False)) (fun _ _ h => h)
  have htl2 : SrcV u2 1 (.slice (some A) (n - (t + 1)) (c' - (t + 1))) (n - (t + 1)) ((ls.drop (t + 1)).map .string) := SrcV.fr HTL.out FX (fun h0 k hk hS => by
    have := SrcV.blkLt (SrcV.below H.out.2.2.2.2.2.1 HB.out) (show 0 < (n - (t + 1)) * 1 by omega) k hk
    have hS' : w2.heap.size ≤ k := hS
    omega)
  rw [HT.out.1] at htl2
  obtain ⟨ra, rc, u3, hr3, own3, hg3, _⟩ := run_append_srcv (P := Try.prog) u2 22 22 w2.heap.size ES i0 (.string ⟨#[]⟩) 1 16 underS hi0 hz0 hz1 hz2 rfl (by decide) (.slice d1 (i + nn) e1') (i + nn) _ own1 _ (n - (i + on)) _ htl2 (by simp only [maxLen]; omega) (by omega) (Nat.le_trans hsz3 (Nat.le_trans FX.size (Nat.le_refl _)))
  refine ⟨_, u3, rfl, by simp only [Vs.opOf_succ, Vs.opOf_zero]; exact exec_append rfl rfl rfl hr3, (Fr.refl _ u2).grown hg3 (fun k hk _ => (own1.lt k hk).1), ?_⟩
  simp only [Vs.opOf_succ, Vs.opOf_zero, Act.put, List.setIfInBounds_toArray, List.set_cons_zero, List.set_cons_succ]
  have FX := FX.grown hg3 (fun k hk _ => (own1.lt k hk).1)
  rw [← List.map_append, ← HT.out.1] at own3
  rw [← List.map_append] at own3
  have hfin : Hid (Ss u3 ra (apl ls i t yl).length rc (apl ls i t yl) ∧ Below w.heap.size w u3 ∧ i + nn + (n - (i + on)) = (apl ls i t yl).length) := by
    have hlen2 : i + nn + (n - (i + on)) = (apl ls i t yl).length := by rw [H.out.2.2.2.2.2.2, HT.out.1]
    refine ⟨?_, (below_on H.out.2.1 (below_on HB.out H3.out.2)).trans (FX.below (by have := H.out.2.1.size; omega) (fun k hk => by have hS' : w2.heap.size ≤ k := hk; omega)), hlen2⟩
    have hs := SrcV.ofOwn own3 (one_cells _)
    rw [HT.out.1, hlen2, ← HT.out.1] at hs
    exact hs
  clear hr3 hg3 own1 own3 hu2 FX htl2 HTL HN H3
  rw [hfin.out.2.2]
  refine Vs.wpPath_free (v := .slice ra (apl ls i t yl).length rc) rfl rfl (fun W => by simp only [Vs.opOf_succ, Vs.opOf_zero]; go_simp) ?_
  simp only [Vs.opOf_succ, Vs.opOf_zero, Act.put, List.setIfInBounds_toArray, List.set_cons_zero, List.set_cons_succ]
  refine Vs.wpPath_free (v := .bool true) rfl rfl (fun W => by simp only [Vs.opOf_succ, Vs.opOf_zero]; go_simp) ?_
  simp only [Vs.opOf_succ, Vs.opOf_zero, Act.put, List.setIfInBounds_toArray, List.set_cons_zero, List.set_cons_succ]
  refine Vs.wpPath_end fun u4 hu4 => ?_
  have HE := Lib.hid (And.intro (SrcV.below hfin.out.1 hu4) (below_on hfin.out.2.1 hu4))
  clear hfin hu4
  go_wp2
  go_ret2
  exact ⟨ra, rc, rfl, HE.out.1, HE.out.2⟩

set_option maxHeartbeats 4000000 in
theorem apply_yes (a : Option Addr) (n c' : Nat) (ls : List ByteArray) (g : Nat) (i t : Nat) (oa : Option Addr) (on oc : Nat) (na : Option Addr) (nn nc : Nat) (yl : List ByteArray) (w : World) (h : Ss w a n c' ls) (hg : ChAt w g (i, (oa, on, oc), (na, nn, nc))) (hx : CW w (i, (oa, on, oc), (na, nn, nc)) (i, cutL ls i t, yl))
    (hit : i ≤ t) (htn : t < n) (hn : n ≤ 1000000) (h0 : 0 < nn) (hnn : nn ≤ 1000000) :
    Calls Try.prog 24 #[.slice a n c', .slice (some ⟨g, 0, none⟩) 1 1] w fun e w' => LbOut w (apl ls i t yl) e w' := by
  obtain ⟨i0, hi0, hz0, hz1, hz2⟩ := info_parts infoS
  have hlen := h.length
  have hsrc := Lib.hid h
  have hown0 := Lib.hid (World.ownsRow_nil w w.heap.size ES 1)
  have H := Lib.hid (And.intro hg (And.intro hx (And.intro hit htn)))
  clear hg hx h hit htn
  go_enter Try.func24, Try.ntmps24
  go_wp2_with (at_builtin; go_must (refine append_srcv _ rfl _ _ 22 rfl w.heap.size ES i0 (.string ⟨#[]⟩) 1 16 underS hi0 hz0 hz1 hz2 rfl (by decide) _ 0 [] rfl hown0.out _ n (ls.map .string) rfl hsrc.out (by simp only [maxLen]; omega) (by omega) (Nat.le_refl _) ?_); intro b3 c3 w3 hown hg hnr; have HO := Lib.hid (And.intro hown ((Below.refl _ w).grown hg (Nat.le_refl _) (fun k e => by simp [Value.ownBlock, Act.eval] at e))); clear hown hg hnr)
  have own3 := HO.out.1
  have hb3 := HO.out.2
  simp only [Nat.zero_add, List.nil_append] at own3
  have hs3 : Ss w3 b3 n c3 ls := SrcV.ofOwn own3 (one_cells _)
  have H3 := Lib.hid (And.intro hs3 hb3)
  clear HO hsrc hown0 own3 hb3 hs3
  go_loopw [6, 7] (fun u v wr => ∃ k : Nat, v = .int .i64 k ∧ ((k = 0 ∧ u = .slice b3 n c3 ∧ wr = w3) ∨ (k = 1 ∧ ∃ (ra : Option Addr) (rc : Nat), u = .slice ra (apl ls i t yl).length rc ∧ Hid (Ss wr ra (apl ls i t yl).length rc (apl ls i t yl) ∧ Below w.heap.size w wr)))) (fun _ v _ => 1 - (RowKit.intOf v).toNat)
  case atStart => exact ⟨0, rfl, .inl ⟨rfl, rfl, rfl⟩⟩
  case round =>
    obtain ⟨k, rfl, ⟨rfl, rfl, rfl⟩ | ⟨rfl, ra, rc, rfl, hQ⟩⟩ := hrel
    · have hg3 := H.out.1.below H3.out.2 H.out.1.lt
      have m0 := hg3.c0
      have m1 : wr.cell? ⟨g, 1, none⟩ = some (.slice oa on oc) := hg3.c1
      have m2 : wr.cell? ⟨g, 2, none⟩ = some (.slice na nn nc) := hg3.c2
      have ho := one_yes b3 n c3 ls i t oa on oc na nn nc yl wr H3.out.1 (H.out.2.1.below H3.out.2) H.out.2.2.1 H.out.2.2.2 hn h0 hnn
      clear hg3
      go_wp2_with fail
      refine ho.mono ?_
      rintro e w5 ⟨ra, rc, rfl, hs5, hb5⟩
      have HQ := Lib.hid (And.intro hs5 (below_on H3.out.2 hb5))
      clear ho hs5 hb5 m0 m1 m2
      go_wp2
      go_roundw
      case rel => exact ⟨1, by go_num, .inr ⟨rfl, ra, rc, rfl, HQ⟩⟩
      case measure => simp [RowKit.intOf]
    · go_wp2
      go_ret2
      exact ⟨ra, rc, rfl, hQ.out.1, hQ.out.2⟩
end Go.Proofs.Ytkddnknjjdenhaa.Ed
