/-
  The document's helps of motions by words: behind, ahead, nth.
-/
import Derived.Test.YtpdbfdhfonfbeaaZd
set_option linter.unusedVariables false
set_option linter.unusedSimpArgs false
set_option maxRecDepth 100000
namespace Go.Proofs.Ytpdbfdhfonfbeaa.Wd
open Go Go.RowKit Go.Proofs.Ytpdbfdhfonfbeaa.Vk Go.Proofs.Ytpdbfdhfonfbeaa.Str Go.Proofs.Ytpdbfdhfonfbeaa.Ln Go.Proofs.Ytpdbfdhfonfbeaa.Cl Go.Proofs.Ytpdbfdhfonfbeaa.Mv
attribute [local go_sem] Oper.semAt_some

def bhd (same : Bool) (p x : P2) : Bool := lp p x || (same && decide (x = p))
theorem bhd_aft (l : List P2) (p : P2) : l.filter (bhd false p) = aft l p := by
  unfold aft; refine List.filter_congr fun x _ => ?_
  simp [bhd]
theorem bhd_atf (l : List P2) (p : P2) : l.filter (bhd true p) = atf l p := by
  unfold atf; refine List.filter_congr fun x _ => ?_
  rw [Bool.eq_iff_iff]
  simp only [bhd, Bool.true_and, Bool.or_eq_true, decide_eq_true_eq, Bool.not_eq_true', lp_iff, lp_false]
  constructor
  · rintro (h | rfl) <;> omega
  · intro h
    by_cases h1 : p.1 < x.1 ∨ p.1 = x.1 ∧ p.2 < x.2
    · exact .inl h1
    · exact .inr (Prod.ext (by omega) (by omega))
theorem take_flt_yes {pr : P2 → Bool} {l : List P2} {j : Nat} (hj : j < l.length) (h : pr l[j] = true) : (l.take (j + 1)).filter pr = (l.take j).filter pr ++ [l[j]] := by
  rw [List.take_succ_eq_append_getElem hj, List.filter_append, List.filter_cons_of_pos h]; rfl
theorem take_flt_no {pr : P2 → Bool} {l : List P2} {j : Nat} (hj : j < l.length) (h : pr l[j] = false) : (l.take (j + 1)).filter pr = (l.take j).filter pr := by
  rw [List.take_succ_eq_append_getElem hj, List.filter_append, List.filter_cons_of_neg (by rw [h]; simp)]; simp
theorem drop_flt_yes {pr : P2 → Bool} {l : List P2} {j : Nat} (hj : j < l.length) (h : pr l[j] = true) : ((l.drop j).filter pr).reverse = ((l.drop (j + 1)).filter pr).reverse ++ [l[j]] := by
  rw [List.drop_eq_getElem_cons hj, List.filter_cons_of_pos h, List.reverse_cons]
theorem drop_flt_no {pr : P2 → Bool} {l : List P2} {j : Nat} (hj : j < l.length) (h : pr l[j] = false) : ((l.drop j).filter pr).reverse = ((l.drop (j + 1)).filter pr).reverse := by
  rw [List.drop_eq_getElem_cons hj, List.filter_cons_of_neg (by rw [h]; simp)]

set_option maxHeartbeats 4000000 in
theorem behind5_any (a : Option Addr) (n c : Nat) (l : List P2) (p : P2) (same : Bool) (w : World) (h : Ps w a n c l) (hn2 : n ≤ 2000000) :
    Calls Try.prog 42 #[.slice a n c, .agg #[.int .i64 p.1, .int .i64 p.2], .bool same] w fun e w' => ∃ b cc, e = .returned (.slice b (l.filter (bhd same p)).length cc) ∧ Ps w' b (l.filter (bhd same p)).length cc (l.filter (bhd same p)) ∧ Below w.heap.size w w' := by
  have hn := h.le63
  have hlen := h.length
  obtain ⟨i0, hi0, hz0, hz1', hz2'⟩ := info_parts infoP
  obtain ⟨X, hX⟩ : ∃ X, X = w.alloc (.cells #[.int .i64 p.1, .int .i64 p.2] 24) := ⟨_, rfl⟩
  have hbX : Below w.heap.size w X := by rw [hX]; exact (Below.refl _ w).alloc (Nat.le_refl _) _
  have hP : PosAt X w.heap.size p.1 p.2 := by rw [hX]; exact PosAt.new w _ _
  have HX := Lib.hid hX
  obtain ⟨B, hB⟩ : ∃ B, B = w.heap.size := ⟨_, rfl⟩
  rw [← hB] at hP
  have HB := Lib.hid hB
  have HS := Lib.hid (h.below hbX)
  have HP := Lib.hid hP
  have HBX := Lib.hid hbX
  clear hX hP hB hbX h
  go_enter Try.func42, Try.ntmps42
  go_wp2
  rw [← HX.out, ← HB.out]
  go_loopw [7, 8] (fun u i wr => ∃ (j N : Nat) (b : Option Addr) (cc : Nat), j ≤ n ∧ u = .slice b N cc ∧ i = .int .i64 j ∧ Hid (Own X ((l.take j).filter (bhd same p)) N b cc wr)) (fun u i _ => n - (RowKit.intOf i).toNat)
  case atStart => exact ⟨0, 0, none, 0, Nat.zero_le _, rfl, rfl, Own.nil X⟩
  case round =>
    obtain ⟨j, N, b, cc, hjn, rfl, rfl, HW⟩ := hrel
    by_cases hkn : j < n
    · have hjl : j < l.length := by omega
      obtain ⟨ba, o, rfl, hx0, hx1, hnc⟩ := HS.out.read j hjl
      have hNb : N ≤ 2000000 := by
        have h1 := HW.out.1
        have h2 := List.length_filter_le (bhd same p) (l.take j)
        rw [List.length_take] at h2
        omega
      have hyes := take_flt_yes (pr := bhd same p) hjl
      have hno := take_flt_no (pr := bhd same p) hjl
      obtain ⟨x, hx⟩ : ∃ x, x = l[j]'hjl := ⟨_, rfl⟩
      rw [← hx] at hx0 hx1 hyes hno
      have q0 := cell_later HW.out.2.2 hx0
      have q1 := cell_later HW.out.2.2 hx1
      have hPr := HP.out.below HW.out.2.2 HP.out.lt
      have p0 := hPr.c0
      have p1 := hPr.c1
      have HQ := Lib.hid (And.intro q0 q1)
      have hls := fun z : Gr wr => So.less5_any p.1 p.2 x.1 x.2 z.W
      clear hx0 hx1 hPr hx
      cases hlp : lp p x
      · rw [show So.lt p.1 p.2 x.1 x.2 = false from hlp] at hls
        cases same
        · have HN := Lib.hid (hno (by simp [bhd, hlp]))
          clear hyes hno hlp
          go_wp2_with fail
          have f0 := fun z : Gr wr => z.cell p0
          have f1 := fun z : Gr wr => z.cell p1
          have f2 := fun z : Gr wr => z.cell q0
          have f3 := fun z : Gr wr => z.cell q1
          clear p0 p1 q0 q1
          refine wp_region_grow (by kernel_rfl) (by kernel_rfl) ?_
          repeat (go_big_quiet_step (first | (go_at_call 20; exact Calls.grow_of (hls _))))
          refine wpQuiet_nil ?_
          rintro W2 ⟨⟨_, hb2⟩, rfl⟩
          clear f0 f1 f2 f3 hls
          have HO := Lib.hid (HW.out.below hb2)
          clear hb2
          go_wp2
          go_roundw
          case rel => exact ⟨j + 1, N, b, cc, by omega, rfl, by go_num, by rw [HN.out]; exact HO⟩
          case measure => simp [RowKit.intOf] <;> omega
        · by_cases hxp : x = p
          · have HN := Lib.hid (hyes (by simp [bhd, hxp]))
            have he : ∀ W, (binOp .eql 24 (.agg #[.int .i64 x.1, .int .i64 x.2]) (.agg #[.int .i64 p.1, .int .i64 p.2])).run Try.prog W = .ok (.bool true) W := fun W => by rw [eq_pos, hxp]; simp
            clear hyes hno hlp hxp
            go_wp2_with fail
            have f0 := fun z : Gr wr => z.cell p0
            have f1 := fun z : Gr wr => z.cell p1
            have f2 := fun z : Gr wr => z.cell q0
            have f3 := fun z : Gr wr => z.cell q1
            clear p0 p1 q0 q1
            refine wp_region_grow (by kernel_rfl) (by kernel_rfl) ?_
            repeat (go_big_quiet_step (first | (go_at_call 20; exact Calls.grow_of (hls _))))
            refine wpQuiet_nil ?_
            rintro W2 ⟨⟨_, hb2⟩, rfl⟩
            clear f0 f1 f2 f3 hls
            have HO := Lib.hid (HW.out.below hb2)
            clear he
            have q0 := cell_later hb2 HQ.out.1
            have q1 := cell_later hb2 HQ.out.2
            clear hb2
            go_wp2_with (at_builtin; go_must (refine append_srcv _ rfl _ _ 29 rfl X.heap.size EP i0 (.agg #[.int .i64 0, .int .i64 0]) 2 16 underP hi0 hz0 hz1' hz2' rfl (by decide) (.slice b N cc) _ _ rfl (HO.out.built _) (.slice (some ⟨W2.heap.size, 0, none⟩) 1 1) 1 [.int .i64 x.1, .int .i64 x.2] rfl (SrcV.pos W2 x.1 x.2) (by simp only [maxLen]; omega) (by omega) (by have := HO.out.2.2.size; simp; omega) ?_); intro ob oc V hown hg hnr; have HO4 := Lib.hid (HO.out.app (x := x) hown hg); clear hown hg hnr)
            go_roundw
            case rel => exact ⟨j + 1, N + 1, ob, oc, by omega, rfl, by go_num, by rw [HN.out]; exact HO4⟩
            case measure => simp [RowKit.intOf] <;> omega
          · have HN := Lib.hid (hno (by simp [bhd, hlp, hxp]))
            have he : ∀ W, (binOp .eql 24 (.agg #[.int .i64 x.1, .int .i64 x.2]) (.agg #[.int .i64 p.1, .int .i64 p.2])).run Try.prog W = .ok (.bool false) W := fun W => by
              rw [eq_pos]
              have : ¬ (x.1 = p.1 ∧ x.2 = p.2) := fun hh => hxp (Prod.ext hh.1 hh.2)
              by_cases h1 : x.1 = p.1
              · have h2 : ¬ x.2 = p.2 := fun hh => this ⟨h1, hh⟩
                simp [Int.natCast_inj, h2]
              · simp [Int.natCast_inj, h1]
            clear hyes hno hlp hxp
            go_wp2_with fail
            have f0 := fun z : Gr wr => z.cell p0
            have f1 := fun z : Gr wr => z.cell p1
            have f2 := fun z : Gr wr => z.cell q0
            have f3 := fun z : Gr wr => z.cell q1
            clear p0 p1 q0 q1
            refine wp_region_grow (by kernel_rfl) (by kernel_rfl) ?_
            repeat (go_big_quiet_step (first | (go_at_call 20; exact Calls.grow_of (hls _))))
            refine wpQuiet_nil ?_
            rintro W2 ⟨⟨_, hb2⟩, rfl⟩
            clear f0 f1 f2 f3 hls
            have HO := Lib.hid (HW.out.below hb2)
            clear he
            clear hb2
            go_wp2
            go_roundw
            case rel => exact ⟨j + 1, N, b, cc, by omega, rfl, by go_num, by rw [HN.out]; exact HO⟩
            case measure => simp [RowKit.intOf] <;> omega
      · rw [show So.lt p.1 p.2 x.1 x.2 = true from hlp] at hls
        have HN := Lib.hid (hyes (by simp [bhd, hlp]))
        clear hyes hno hlp
        go_wp2_with fail
        have f0 := fun z : Gr wr => z.cell p0
        have f1 := fun z : Gr wr => z.cell p1
        have f2 := fun z : Gr wr => z.cell q0
        have f3 := fun z : Gr wr => z.cell q1
        clear p0 p1 q0 q1
        refine wp_region_grow (by kernel_rfl) (by kernel_rfl) ?_
        repeat (go_big_quiet_step (first | (go_at_call 20; exact Calls.grow_of (hls _))))
        refine wpQuiet_nil ?_
        rintro W2 ⟨⟨_, hb2⟩, rfl⟩
        clear f0 f1 f2 f3 hls
        have HO := Lib.hid (HW.out.below hb2)
        have q0 := cell_later hb2 HQ.out.1
        have q1 := cell_later hb2 HQ.out.2
        clear hb2
        go_wp2_with (at_builtin; go_must (refine append_srcv _ rfl _ _ 29 rfl X.heap.size EP i0 (.agg #[.int .i64 0, .int .i64 0]) 2 16 underP hi0 hz0 hz1' hz2' rfl (by decide) (.slice b N cc) _ _ rfl (HO.out.built _) (.slice (some ⟨W2.heap.size, 0, none⟩) 1 1) 1 [.int .i64 x.1, .int .i64 x.2] rfl (SrcV.pos W2 x.1 x.2) (by simp only [maxLen]; omega) (by omega) (by have := HO.out.2.2.size; simp; omega) ?_); intro ob oc V hown hg hnr; have HO4 := Lib.hid (HO.out.app (x := x) hown hg); clear hown hg hnr)
        go_roundw
        case rel => exact ⟨j + 1, N + 1, ob, oc, by omega, rfl, by go_num, by rw [HN.out]; exact HO4⟩
        case measure => simp [RowKit.intOf] <;> omega
    · obtain rfl : j = n := by omega
      have hq := HW.out
      rw [List.take_of_length_le (by omega)] at hq
      have HQ := Lib.hid hq
      clear hq
      go_wp2
      go_ret
      have hq := HQ.out
      rw [hq.1]
      exact ⟨b, cc, rfl, hq.ps, HBX.out.trans (hq.2.2.mono HBX.out.size)⟩

set_option maxHeartbeats 4000000 in
theorem ahead5_any (a : Option Addr) (n c : Nat) (l : List P2) (p : P2) (w : World) (h : Ps w a n c l) (hn2 : n ≤ 2000000) :
    Calls Try.prog 43 #[.slice a n c, .agg #[.int .i64 p.1, .int .i64 p.2]] w fun e w' => ∃ b cc, e = .returned (.slice b (bef l p).reverse.length cc) ∧ Ps w' b (bef l p).reverse.length cc (bef l p).reverse ∧ Below w.heap.size w w' := by
  have hn := h.le63
  have hlen := h.length
  obtain ⟨i0, hi0, hz0, hz1', hz2'⟩ := info_parts infoP
  obtain ⟨X, hX⟩ : ∃ X, X = w.alloc (.cells #[.int .i64 p.1, .int .i64 p.2] 24) := ⟨_, rfl⟩
  have hbX : Below w.heap.size w X := by rw [hX]; exact (Below.refl _ w).alloc (Nat.le_refl _) _
  have hP : PosAt X w.heap.size p.1 p.2 := by rw [hX]; exact PosAt.new w _ _
  have HX := Lib.hid hX
  obtain ⟨B, hB⟩ : ∃ B, B = w.heap.size := ⟨_, rfl⟩
  rw [← hB] at hP
  have HB := Lib.hid hB
  have HS := Lib.hid (h.below hbX)
  have HP := Lib.hid hP
  have HBX := Lib.hid hbX
  have hwn : IntKind.i64.wrap ((n : Int) - 1) = (n : Int) - 1 := wrap_id (by omega) (by omega)
  clear hX hP hB hbX h
  go_enter Try.func43, Try.ntmps43
  go_wp2
  rw [← HX.out, ← HB.out]
  clear hwn
  go_loopw [5, 6] (fun u i wr => ∃ (j N : Nat) (b : Option Addr) (cc : Nat), j ≤ n ∧ u = .slice b N cc ∧ i = .int .i64 ((j : Int) - 1) ∧ Hid (Own X ((l.drop j).filter (fun x => lp x p)).reverse N b cc wr)) (fun u i _ => (RowKit.intOf i + 1).toNat)
  case atStart => exact ⟨n, 0, none, 0, Nat.le_refl _, rfl, rfl, by rw [List.drop_of_length_le (by omega)]; exact Own.nil X⟩
  case round =>
    obtain ⟨j, N, b, cc, hjn, rfl, rfl, HW⟩ := hrel
    by_cases hkn : 0 < j
    · obtain ⟨k, rfl⟩ : ∃ k, j = k + 1 := ⟨j - 1, by omega⟩
      have hjl : k < l.length := by omega
      rw [show ((k + 1 : Nat) : Int) - 1 = (k : Int) by omega]
      obtain ⟨ba, o, rfl, hx0, hx1, hnc⟩ := HS.out.read k hjl
      have hwk : IntKind.i64.wrap ((k : Int) - 1) = (k : Int) - 1 := wrap_id (by omega) (by omega)
      have hNb : N ≤ 2000000 := by
        have h1 := HW.out.1
        have h2 := List.length_filter_le (fun x => lp x p) (l.drop (k + 1))
        rw [List.length_drop] at h2
        rw [List.length_reverse] at h1
        omega
      have hyes := drop_flt_yes (pr := fun x => lp x p) hjl
      have hno := drop_flt_no (pr := fun x => lp x p) hjl
      obtain ⟨x, hx⟩ : ∃ x, x = l[k]'hjl := ⟨_, rfl⟩
      rw [← hx] at hx0 hx1 hyes hno
      have q0 := cell_later HW.out.2.2 hx0
      have q1 := cell_later HW.out.2.2 hx1
      have hPr := HP.out.below HW.out.2.2 HP.out.lt
      have p0 := hPr.c0
      have p1 := hPr.c1
      have HQ := Lib.hid (And.intro q0 q1)
      have hls := fun z : Gr wr => So.less5_any x.1 x.2 p.1 p.2 z.W
      clear hx0 hx1 hPr hx
      have dk : decide ((0 : Int) ≤ (k : Int)) = true := decide_eq_true (by omega)
      have hkn2 : k < n := by omega
      clear hkn
      cases hlp : lp x p
      · rw [show So.lt x.1 x.2 p.1 p.2 = false from hlp] at hls
        have HN := Lib.hid (hno hlp)
        clear hyes hno hlp
        go_wp2_with fail
        have f0 := fun z : Gr wr => z.cell p0
        have f1 := fun z : Gr wr => z.cell p1
        have f2 := fun z : Gr wr => z.cell q0
        have f3 := fun z : Gr wr => z.cell q1
        clear p0 p1 q0 q1
        refine wp_region_grow (by kernel_rfl) (by kernel_rfl) ?_
        repeat (go_big_quiet_step (first | (go_at_call 20; exact Calls.grow_of (hls _))))
        refine wpQuiet_nil ?_
        rintro W2 ⟨⟨_, hb2⟩, rfl⟩
        clear f0 f1 f2 f3 hls
        have HO := Lib.hid (HW.out.below hb2)
        clear hb2
        go_wp2
        go_roundw
        case rel => exact ⟨k, N, b, cc, by omega, rfl, rfl, by rw [HN.out]; exact HO⟩
        case measure => simp [RowKit.intOf] <;> omega
      · rw [show So.lt x.1 x.2 p.1 p.2 = true from hlp] at hls
        have HN := Lib.hid (hyes hlp)
        clear hyes hno hlp
        go_wp2_with fail
        have f0 := fun z : Gr wr => z.cell p0
        have f1 := fun z : Gr wr => z.cell p1
        have f2 := fun z : Gr wr => z.cell q0
        have f3 := fun z : Gr wr => z.cell q1
        clear p0 p1 q0 q1
        refine wp_region_grow (by kernel_rfl) (by kernel_rfl) ?_
        repeat (go_big_quiet_step (first | (go_at_call 20; exact Calls.grow_of (hls _))))
        refine wpQuiet_nil ?_
        rintro W2 ⟨⟨_, hb2⟩, rfl⟩
        clear f0 f1 f2 f3 hls
        have HO := Lib.hid (HW.out.below hb2)
        have q0 := cell_later hb2 HQ.out.1
        have q1 := cell_later hb2 HQ.out.2
        clear hb2
        go_wp2_with (at_builtin; go_must (refine append_srcv _ rfl _ _ 29 rfl X.heap.size EP i0 (.agg #[.int .i64 0, .int .i64 0]) 2 16 underP hi0 hz0 hz1' hz2' rfl (by decide) (.slice b N cc) _ _ rfl (HO.out.built _) (.slice (some ⟨W2.heap.size, 0, none⟩) 1 1) 1 [.int .i64 x.1, .int .i64 x.2] rfl (SrcV.pos W2 x.1 x.2) (by simp only [maxLen]; omega) (by omega) (by have := HO.out.2.2.size; simp; omega) ?_); intro ob oc V hown hg hnr; have HO4 := Lib.hid (HO.out.app (x := x) hown hg); clear hown hg hnr)
        go_roundw
        case rel => exact ⟨k, N + 1, ob, oc, by omega, rfl, rfl, by rw [HN.out]; exact HO4⟩
        case measure => simp [RowKit.intOf] <;> omega
    · obtain rfl : j = 0 := by omega
      have hq := HW.out
      rw [List.drop_zero] at hq
      have HQ := Lib.hid (show Own X (bef l p).reverse N b cc wr from hq)
      clear hq
      go_wp2
      go_ret
      have hq := HQ.out
      rw [hq.1]
      exact ⟨b, cc, rfl, hq.ps, HBX.out.trans (hq.2.2.mono HBX.out.size)⟩

theorem behind5_n (a : Option Addr) (n c : Nat) (l : List P2) (p : P2) (same : Bool) (w : World) (h : Ps w a n c l) (hn2 : n ≤ 2000000) :
    Calls Try.prog 42 #[.slice a n c, .agg #[.int .i64 p.1, .int .i64 p.2], .bool same] w fun e w' => ∃ b N cc, e = .returned (.slice b N cc) ∧ Ps w' b N cc (l.filter (bhd same p)) ∧ Below w.heap.size w w' :=
  (behind5_any a n c l p same w h hn2).mono fun e w' ⟨b, cc, h1, h2, h3⟩ => ⟨b, _, cc, h1, h2, h3⟩
theorem ahead5_n (a : Option Addr) (n c : Nat) (l : List P2) (p : P2) (w : World) (h : Ps w a n c l) (hn2 : n ≤ 2000000) :
    Calls Try.prog 43 #[.slice a n c, .agg #[.int .i64 p.1, .int .i64 p.2]] w fun e w' => ∃ b N cc, e = .returned (.slice b N cc) ∧ Ps w' b N cc (bef l p).reverse ∧ Below w.heap.size w w' :=
  (ahead5_any a n c l p w h hn2).mono fun e w' ⟨b, cc, h1, h2, h3⟩ => ⟨b, _, cc, h1, h2, h3⟩

end Go.Proofs.Ytpdbfdhfonfbeaa.Wd
