/-
  The document's behind and ahead.
-/
import Derived.Test.YthlneojhkhhmbaaFg
import Derived.Test.YthlneojhkhhmbaaZd
set_option linter.unusedVariables false
set_option linter.unusedSimpArgs false
set_option maxRecDepth 100000
namespace Go.Proofs.Ythlneojhkhhmbaa.Fd
open Go Go.RowKit Go.Proofs.Ythlneojhkhhmbaa.Vk Go.Proofs.Ythlneojhkhhmbaa.Str Go.Proofs.Ythlneojhkhhmbaa.Ln Go.Proofs.Ythlneojhkhhmbaa.Cl Go.Proofs.Ythlneojhkhhmbaa.Mv Go.Proofs.Ythlneojhkhhmbaa.Wd Go.Shelf
attribute [local go_sem] Oper.semAt_some

theorem own_on {w X V : World} {L : List P2} {N : Nat} {b : Option Addr} {cc : Nat} (h : Wd.Own X L N b cc V) (hb : Below w.heap.size w X) : Wd.Own w L N b cc V :=
  ⟨h.1, ownsRow_mono h.2.1 hb.size, below_on hb h.2.2⟩
set_option maxHeartbeats 4000000 in
theorem behind5_any (a : Option Addr) (n c : Nat) (l : List P2) (p : P2) (w : World) (h : Ps w a n c l) (hl : n ≤ 1000000) :
    Calls Try.prog 32 #[.slice a n c, .agg #[.int .i64 p.1, .int .i64 p.2], .bool false] w fun e w' => ∃ b cc N, e = .returned (.slice b N cc) ∧ Wd.Own w (aft l p) N b cc w' := by
  have hlen := h.length
  obtain ⟨i0, hi0, hz0, hz1', hz2'⟩ := info_parts infoP
  obtain ⟨X, hX⟩ : ∃ X, X = w.alloc (.cells #[.int .i64 p.1, .int .i64 p.2] 27) := ⟨_, rfl⟩
  have hb0 : Below w.heap.size w X := by rw [hX]; exact (Below.refl _ w).alloc (Nat.le_refl _) _
  have hpp : PosAt X w.heap.size p.1 p.2 := by rw [hX]; exact PosAt.new w _ _
  have HX := Lib.hid hX
  have hx := Ps.below h hb0
  have HP := Lib.hid (And.intro hb0 hpp)
  have HP : Hid (Below w.heap.size w X ∧ PosAt X w.heap.size p.1 p.2 ∧ True) := ⟨hb0, hpp, trivial⟩
  clear hX hb0 hpp h
  go_enter Try.func32, Try.ntmps32
  go_wp2
  rw [← HX.out]
  go_loopw [7, 8] (fun u i wr => ∃ (k N : Nat) (b : Option Addr) (cc : Nat), k ≤ n ∧ u = .slice b N cc ∧ i = .int .i64 k ∧ Hid (Wd.Own X (aft (l.take k) p) N b cc wr)) (fun u i _ => n - (RowKit.intOf i).toNat)
  case atStart => exact ⟨0, 0, none, 0, Nat.zero_le _, rfl, rfl, Wd.Own.nil X⟩
  case round =>
    obtain ⟨k, N, b, cc, hkn, rfl, rfl, HW⟩ := hrel
    by_cases hk : k < n
    · obtain ⟨ba, o, rfl, z0, z1, hnc⟩ := hx.read k (by omega)
      have htk : l.take (k + 1) = l.take k ++ [l[k]'(by omega)] := (List.take_succ_eq_append_getElem (by omega))
      obtain ⟨x, hxx⟩ : ∃ x, x = l[k]'(by omega) := ⟨_, rfl⟩
      rw [← hxx] at z0 z1 htk
      have hLb : N ≤ 2000000 := by
        have h5 := HW.out.1
        have h6 := List.length_filter_le (fun q => lp p q) (l.take k)
        have h7 := List.length_take_le k l
        unfold aft at h5
        omega
      have hn := hx.le63
      have hpw := HP.out.2.1.below HW.out.2.2 HP.out.2.1.lt
      have f0 := fun y : Gr wr => y.cell (cell_later HW.out.2.2 z0)
      have f1 := fun y : Gr wr => y.cell (cell_later HW.out.2.2 z1)
      have f2 := fun y : Gr wr => y.cell hpw.c0
      have f3 := fun y : Gr wr => y.cell hpw.c1
      have q0 := fun V (hV : Below wr.heap.size wr V) => cell_later hV (cell_later HW.out.2.2 z0)
      have q1 := fun V (hV : Below wr.heap.size wr V) => cell_later hV (cell_later HW.out.2.2 z1)
      have hls := fun y : Gr wr => So.less5_any p.1 p.2 x.1 x.2 y.W
      have HXX := Lib.hid (And.intro htk hxx)
      clear htk hxx z0 z1 hpw
      cases hlp : lp p x
      · rw [show So.lt p.1 p.2 x.1 x.2 = false from hlp] at hls
        have HN : Hid (aft (l.take (k + 1)) p = aft (l.take k) p) := by rw [HXX.out.1]; exact flt_no hlp
        clear hlp
        go_wp2
        refine wp_region_grow (by kernel_rfl) (by kernel_rfl) ?_
        repeat (go_big_quiet_step (first | (go_at_call 34; exact Calls.grow_of (hls _))))
        refine wpQuiet_nil ?_
        rintro V5 ⟨⟨_, hV5⟩, rfl⟩
        clear f0 f1 f2 f3 hls q0 q1
        go_wp2
        go_roundw
        case rel => exact ⟨k + 1, N, b, cc, by omega, rfl, by go_num, by rw [HN.out]; exact HW.out.below hV5⟩
        case measure => simp [RowKit.intOf]; omega
      · rw [show So.lt p.1 p.2 x.1 x.2 = true from hlp] at hls
        have HN : Hid (aft (l.take (k + 1)) p = aft (l.take k) p ++ [x]) := by
          rw [HXX.out.1]; unfold aft; rw [List.filter_append, List.filter_cons_of_pos hlp]; rfl
        clear hlp
        go_wp2
        refine wp_region_grow (by kernel_rfl) (by kernel_rfl) ?_
        repeat (go_big_quiet_step (first | (go_at_call 34; exact Calls.grow_of (hls _))))
        refine wpQuiet_nil ?_
        rintro V5 ⟨⟨_, hV5⟩, rfl⟩
        have g0 := q0 V5 hV5
        have g1 := q1 V5 hV5
        have HW : Hid (Wd.Own X (aft (l.take k) p) N b cc V5) := HW.out.below hV5
        clear f0 f1 f2 f3 hls q0 q1 hV5
        go_wp2_with (at_builtin; go_must (refine append_srcv _ rfl _ _ 29 rfl X.heap.size EP i0 (.agg #[.int .i64 0, .int .i64 0]) 2 16 underP hi0 hz0 hz1' hz2' rfl (by decide) (.slice b N cc) _ _ rfl (HW.out.built _) (.slice (some ⟨V5.heap.size, 0, none⟩) 1 1) 1 [.int .i64 (x.1 : Int), .int .i64 (x.2 : Int)] rfl (SrcV.pos V5 (x.1 : Int) (x.2 : Int)) (by simp only [maxLen]; omega) (by omega) (by have := HW.out.2.2.size; simp; omega) ?_); intro ob oc V hown hg hnr; have HO := Lib.hid (HW.out.app (x := (x.1, x.2)) hown hg); clear hown hg hnr)
        go_roundw
        case rel => exact ⟨k + 1, N + 1, ob, oc, by omega, rfl, by go_num, by rw [HN.out]; exact HO.out⟩
        case measure => simp [RowKit.intOf]; omega
    · obtain rfl : k = n := by omega
      go_wp2
      go_ret
      have hq := HW.out
      rw [List.take_of_length_le (by omega)] at hq
      exact ⟨b, cc, N, rfl, own_on hq HP.out.1⟩

theorem bef_drop {l : List P2} {p : P2} {k : Nat} (hk : k < l.length) : bef (l.drop k) p = (if lp l[k] p = true then [l[k]] else []) ++ bef (l.drop (k + 1)) p := by
  rw [List.drop_eq_getElem_cons hk]
  unfold bef
  cases h : lp l[k] p
  · rw [List.filter_cons_of_neg (p := fun q => lp q p) (by simp [h])]; simp
  · rw [List.filter_cons_of_pos (p := fun q => lp q p) h]; simp
set_option maxHeartbeats 4000000 in
theorem ahead5_any (a : Option Addr) (n c : Nat) (l : List P2) (p : P2) (w : World) (h : Ps w a n c l) (hl : n ≤ 1000000) :
    Calls Try.prog 33 #[.slice a n c, .agg #[.int .i64 p.1, .int .i64 p.2]] w fun e w' => ∃ b cc N, e = .returned (.slice b N cc) ∧ Wd.Own w (bef l p).reverse N b cc w' := by
  have hlen := h.length
  obtain ⟨i0, hi0, hz0, hz1', hz2'⟩ := info_parts infoP
  obtain ⟨X, hX⟩ : ∃ X, X = w.alloc (.cells #[.int .i64 p.1, .int .i64 p.2] 27) := ⟨_, rfl⟩
  have hb0 : Below w.heap.size w X := by rw [hX]; exact (Below.refl _ w).alloc (Nat.le_refl _) _
  have hpp : PosAt X w.heap.size p.1 p.2 := by rw [hX]; exact PosAt.new w _ _
  have HX := Lib.hid hX
  have hx := Ps.below h hb0
  have HP := Lib.hid (And.intro hb0 hpp)
  have HP : Hid (Below w.heap.size w X ∧ PosAt X w.heap.size p.1 p.2 ∧ True) := ⟨hb0, hpp, trivial⟩
  clear hX hb0 hpp h
  obtain ⟨y0, hy0⟩ : ∃ y : Int, y = (n : Int) - 1 := ⟨_, rfl⟩
  have hw0 : IntKind.i64.wrap ((n : Int) - 1) = y0 := by rw [IntKind.wrap_i64]; omega
  have HY0 := Lib.hid hy0
  clear hy0
  go_enter Try.func33, Try.ntmps33
  go_wp2
  rw [← HX.out]
  go_loopw [5, 6] (fun u i wr => ∃ (k N : Nat) (b : Option Addr) (cc : Nat) (y : Int), k ≤ n ∧ u = .slice b N cc ∧ i = .int .i64 y ∧ Hid (y = (k : Int) - 1) ∧ Hid (Wd.Own X (bef (l.drop k) p).reverse N b cc wr)) (fun u i _ => (RowKit.intOf i + 1).toNat)
  case atStart => exact ⟨n, 0, none, 0, y0, Nat.le_refl _, rfl, rfl, HY0, by rw [List.drop_eq_nil_of_le (by omega)]; exact Wd.Own.nil X⟩
  case round =>
    obtain ⟨k1, N, b, cc, y, hkn, rfl, rfl, HY, HW⟩ := hrel
    clear hw0
    cases k1 with
    | zero =>
      have d0 : decide (0 ≤ y) = false := decide_eq_false (by have := HY.out; omega)
      go_wp2
      go_ret
      have hq := HW.out
      rw [List.drop_zero] at hq
      exact ⟨b, cc, N, rfl, own_on hq HP.out.1⟩
    | succ k =>
      obtain rfl : y = (k : Int) := by have := HY.out; omega
      obtain ⟨ba, o, rfl, z0, z1, hnc⟩ := hx.read k (by omega)
      have htk := bef_drop (p := p) (show k < l.length by omega)
      obtain ⟨x, hxx⟩ : ∃ x, x = l[k]'(by omega) := ⟨_, rfl⟩
      rw [← hxx] at z0 z1 htk
      have hLb : N ≤ 2000000 := by
        have h5 := HW.out.1
        have h6 := List.length_filter_le (fun q => lp q p) (l.drop (k + 1))
        rw [List.length_drop] at h6
        rw [List.length_reverse] at h5
        unfold bef at h5
        omega
      have hn := hx.le63
      have hpw := HP.out.2.1.below HW.out.2.2 HP.out.2.1.lt
      have f0 := fun y : Gr wr => y.cell (cell_later HW.out.2.2 z0)
      have f1 := fun y : Gr wr => y.cell (cell_later HW.out.2.2 z1)
      have f2 := fun y : Gr wr => y.cell hpw.c0
      have f3 := fun y : Gr wr => y.cell hpw.c1
      have q0 := fun V (hV : Below wr.heap.size wr V) => cell_later hV (cell_later HW.out.2.2 z0)
      have q1 := fun V (hV : Below wr.heap.size wr V) => cell_later hV (cell_later HW.out.2.2 z1)
      obtain ⟨y1, hy1⟩ : ∃ y1 : Int, y1 = (k : Int) - 1 := ⟨_, rfl⟩
      have hw1 : IntKind.i64.wrap ((k : Int) - 1) = y1 := by rw [IntKind.wrap_i64]; omega
      have hkk : k < n := by omega
      have d0 : decide (0 ≤ (k : Int)) = true := decide_eq_true (by omega)
      have HY1 := Lib.hid hy1
      have hls := fun y : Gr wr => So.less5_any x.1 x.2 p.1 p.2 y.W
      have HXX := Lib.hid (And.intro htk hxx)
      clear htk hxx z0 z1 hpw hy1
      cases hlp : lp x p
      · rw [show So.lt x.1 x.2 p.1 p.2 = false from hlp] at hls
        have HN : Hid ((bef (l.drop k) p).reverse = (bef (l.drop (k + 1)) p).reverse) := by rw [HXX.out.1, if_neg (by rw [hlp]; simp), List.nil_append]; rfl
        clear hlp
        go_wp2
        refine wp_region_grow (by kernel_rfl) (by kernel_rfl) ?_
        repeat (go_big_quiet_step (first | (go_at_call 34; exact Calls.grow_of (hls _))))
        refine wpQuiet_nil ?_
        rintro V5 ⟨⟨_, hV5⟩, rfl⟩
        clear f0 f1 f2 f3 hls q0 q1
        go_wp2
        go_roundw
        case rel => exact ⟨k, N, b, cc, y1, by omega, rfl, rfl, HY1, by rw [HN.out]; exact HW.out.below hV5⟩
        case measure => (have := HY1.out; simp [RowKit.intOf]; omega)
      · rw [show So.lt x.1 x.2 p.1 p.2 = true from hlp] at hls
        have HN : Hid ((bef (l.drop k) p).reverse = (bef (l.drop (k + 1)) p).reverse ++ [x]) := by rw [HXX.out.1, if_pos hlp, List.reverse_append]; rfl
        clear hlp
        go_wp2
        refine wp_region_grow (by kernel_rfl) (by kernel_rfl) ?_
        repeat (go_big_quiet_step (first | (go_at_call 34; exact Calls.grow_of (hls _))))
        refine wpQuiet_nil ?_
        rintro V5 ⟨⟨_, hV5⟩, rfl⟩
        have g0 := q0 V5 hV5
        have g1 := q1 V5 hV5
        have HW : Hid (Wd.Own X (bef (l.drop (k + 1)) p).reverse N b cc V5) := HW.out.below hV5
        clear f0 f1 f2 f3 hls q0 q1 hV5
        go_wp2_with (at_builtin; go_must (refine append_srcv _ rfl _ _ 29 rfl X.heap.size EP i0 (.agg #[.int .i64 0, .int .i64 0]) 2 16 underP hi0 hz0 hz1' hz2' rfl (by decide) (.slice b N cc) _ _ rfl (HW.out.built _) (.slice (some ⟨V5.heap.size, 0, none⟩) 1 1) 1 [.int .i64 (x.1 : Int), .int .i64 (x.2 : Int)] rfl (SrcV.pos V5 (x.1 : Int) (x.2 : Int)) (by simp only [maxLen]; omega) (by omega) (by have := HW.out.2.2.size; simp; omega) ?_); intro ob oc V hown hg hnr; have HO := Lib.hid (HW.out.app (x := (x.1, x.2)) hown hg); clear hown hg hnr)
        go_roundw
        case rel => exact ⟨k, N + 1, ob, oc, y1, by omega, rfl, rfl, HY1, by rw [HN.out]; exact HO.out⟩
        case measure => (have := HY1.out; simp [RowKit.intOf]; omega)
end Go.Proofs.Ythlneojhkhhmbaa.Fd
