/-
  The law VecPlays, walked.
-/
import Derived.Test.YtfijpjnadgdfcaaAll
import Derived.Test.YtfijpjnadgdfcaaActs
import Derived.Test.YtfijpjnadgdfcaaJoins
import Derived.Test.YtfijpjnadgdfcaaKnown
import Derived.LoopTactic
import Derived.BigQuiet
import Derived.Deep.QuietTactic
import Derived.Deep.RegionLaw
import Derived.Deep.RegionHeld3
import Derived.Deep.CutRange
import Derived.Deep.CutBlock
import Derived.IntWalk
set_option linter.unusedVariables false
namespace Go.Proofs.Ytfijpjnadgdfcaa.Plays
open Go Go.RowKit Go.Proofs.Ytfijpjnadgdfcaa.Vk Go.Proofs.Ytfijpjnadgdfcaa.Acts
open VecI (E infoE underS)

set_option maxRecDepth 100000 in
theorem long (lb : Option Addr) (n lc : Nat) (mb : Option Addr) (m mc : Nat) (w : World) (hl : n ≤ 9223372036854775807) (hm : m ≤ 9223372036854775807) (h : 50 < n ∨ 40 < m) :
    Calls Try.prog 3 #[.slice lb n lc, .slice mb m mc] w fun e w' => e = .returned (.bool true) ∧ Below w.heap.size w w' := by
  by_cases h1 : 50 < n
  · clear h
    go_enter Try.func3, Try.ntmps3
    go_wp2_with (go_at_call 8; refine (VecI.known_any _).mono ?_; rintro e w1 ⟨rfl, hb⟩)
    go_ret
    exact ⟨rfl, hb⟩
  · have h2 : 40 < m := by omega
    clear h
    go_enter Try.func3, Try.ntmps3
    go_wp2_with (go_at_call 8; refine (VecI.known_any _).mono ?_; rintro e w1 ⟨rfl, hb⟩)
    go_ret
    exact ⟨rfl, hb⟩

/-- What holds at the loop's head: the list and the plain slice hold the same. -/
structure Rel (w : World) (m : Nat) (p : Nat) (u6 u7 : Value) (k N : Nat) (zs : List Int) (r : Option Nat) (b : Option Addr) (c : Nat) (wr : World) : Prop where
  six : u6 = .slice b N c
  sev : u7 = .int .i64 k
  km : k ≤ m
  few : N ≤ 50 + 20 * k
  vec : IsVec wr w.heap.size 52 E 1 p r N (zs.map (.int .i64))
  row : wr.ownsRow w.heap.size E 1 (.slice b N c) N (zs.map (.int .i64))
  sep : ∀ j, (Value.slice b N c).ownBlock = some j → j ≠ p ∧ r ≠ some j
  bel : Below w.heap.size w wr

/-- What holds behind the change, ahead of the looking. -/
structure Mid (w : World) (p k N : Nat) (zs : List Int) (r : Option Nat) (b : Option Addr) (c : Nat) (h : Nat) (i : Int) (wx : World) : Prop where
  few : N ≤ 50 + 20 * (k + 1)
  vec : IsVec wx w.heap.size 52 E 1 p r N (zs.map (.int .i64))
  row : wx.ownsRow w.heap.size E 1 (.slice b N c) N (zs.map (.int .i64))
  sep : ∀ j, (Value.slice b N c).ownBlock = some j → j ≠ p ∧ r ≠ some j
  bel : Below w.heap.size w wx
  act : wx.cell? ⟨h, 1, none⟩ = some (.int .i64 i)

set_option maxRecDepth 100000 in
set_option maxHeartbeats 16000000 in
theorem short (lb : Option Addr) (n lc : Nat) (zs : List Int) (mb : Option Addr) (m mc : Nat) (ls : List ActD) (w : World) (hl : SrcV w 1 (.slice lb n lc) n (zs.map (.int .i64))) (hm : Script w mb m mc ls)
    (hn : n ≤ 50) (hm40 : m ≤ 40) :
    Calls Try.prog 3 #[.slice lb n lc, .slice mb m mc] w fun e w' => e = .returned (.bool true) ∧ Below w.heap.size w w' := by
  obtain ⟨i0, hi, hz0, hz1, hz2⟩ := info_parts infoE
  have hd1 : decide (50 < (n : Int)) = false := by simp; omega
  have hd2 : decide (40 < (m : Int)) = false := by simp; omega
  have hzl : zs.length = n := by have := hl.1; simpa using this
  have HZL := Lib.hid hzl
  clear hzl
  go_enter Try.func3, Try.ntmps3
  go_wp2_with fail
  refine (VecI.known_any _).mono ?_
  rintro e w1 ⟨rfl, hb1⟩
  go_wp2_with fail
  refine (VecI.new_any _ n _ w1 (hl.below hb1) (by omega)).mono ?_
  rintro e w2 ⟨p, r1, rfl, hv1, hb2⟩
  have hs1 := hb1.size
  have hb2 := hb1.trans (hb2.mono hs1)
  have hv1 := hv1.mono hs1
  have hs2 := hb2.size
  have hl2 := hl.below hb2
  clear hb1
  go_wp2_with (at_builtin; go_must (refine append_srcv _ rfl _ _ 22 rfl w2.heap.size E i0 (.int .i64 0) 1 8 underS hi hz0 hz1 hz2 rfl (by decide) _ 0 [] rfl (World.ownsRow_nil w2 w2.heap.size E 1) _ n (zs.map (.int .i64)) rfl hl2 (by simp only [maxLen]; omega) (by omega) (Nat.le_refl _) ?_); intro gb gc w3 hown hg hnr)
  simp only [Nat.zero_add, List.nil_append] at hown
  have hf3 : Fr (fun _ => False) w2 w3 := (Fr.refl _ w2).grown hg (by intro k hk; simp [Value.ownBlock, Act.eval] at hk)
  have hb3 := hb2.trans (hf3.below (B := w.heap.size) hs2 (by simp))
  have hv3 := hv1.fr hf3 (by simp) (by simp)
  have hrel0 : Rel w m p (.slice gb n gc) (.int .i64 0) 0 n zs r1 gb gc w3 := ⟨rfl, rfl, Nat.zero_le _, by omega, hv3, ownsRow_mono hown hs2, fun j hj => by
    have h1 := (hown.lt j hj).1
    have h2 := hv1.lt.2
    refine ⟨by omega, fun h => ?_⟩
    have := (hv1.rowLt j h).2
    omega, hb3⟩
  have HREL0 := Lib.hid hrel0
  clear hg hnr hf3 hv1 hv3 hown hb2 hb3 hrel0 hl2
  go_wp2_with fail
  go_loopw [6, 7] (fun u6 u7 wr => ∃ k N zs r b c, Hid (Rel w m p u6 u7 k N zs r b c wr)) (fun _ u7 _ => m - (RowKit.intOf u7).toNat)
  case atStart => exact ⟨0, n, zs, r1, gb, gc, HREL0⟩
  case round =>
    obtain ⟨k, N, ys, r, b, c, hR⟩ := hrel
    obtain ⟨rfl, rfl, hkm, hfew, hvec, hrow, hsep, hbel⟩ := hR.out
    have hsz := hbel.size
    have h1y : ∀ u ∈ ys.map (Value.int .i64), u.oneCell' = true := fun u hu => by obtain ⟨s, _, rfl⟩ := List.mem_map.1 hu; rfl
    have hN : N ≤ 850 := by omega
    by_cases hk : k < m
    · obtain ⟨hmc, hcm, hll, hel⟩ := hm
      have hkl : k < ls.length := by omega
      obtain ⟨hfit, sb, so, rfl, hcs⟩ := hel k _ (List.getElem?_eq_getElem hkl)
      generalize ls[k] = a at hfit hcs
      obtain ⟨what, i, num, xa, xn, xc, xs⟩ := a
      have hF := Fr.ofBelow hbel (fun _ => False)
      have f0 : wr.cell? ⟨sb, so + k * 4, none⟩ = some (.int .u8 what) := hF.cell (hcs 0 _ rfl) (by simp)
      have f1 : wr.cell? ⟨sb, so + k * 4 + 1, none⟩ = some (.int .i64 i) := hF.cell (hcs 1 _ rfl) (by simp)
      have f2 : wr.cell? ⟨sb, so + k * 4 + 2, none⟩ = some (.int .i64 num) := hF.cell (hcs 2 _ rfl) (by simp)
      have f3 : wr.cell? ⟨sb, so + k * 4 + 3, none⟩ = some (.slice xa xn xc) := hF.cell (hcs 3 _ rfl) (by simp)
      have HV := Lib.hid hvec
      have HW := Lib.hid hrow
      have HS := Lib.hid hsep
      have HB := Lib.hid hbel
      have HF := Lib.hid hfit
      have hk0 : (0 : Int) ≤ (k : Int) := by omega
      have hk1 : (k : Int) < (m : Int) := by omega
      clear hR hvec hrow hsep hbel hfit hel hcs hF
      by_cases h20 : 20 < xn
      · go_wp2_with fail
        go_ret
        exact ⟨rfl, HB.out.alloc hsz _⟩
      · go_upto_block 2 with fail
        go_cut [6, 9, 10, 11, 12] from 29 to 206 (fun c6 c9 c10 c11 c12 wx => ∃ N' zs' r' b' c', c6 = .slice b' N' c' ∧ Hid (Mid w p k N' zs' r' b' c' wr.heap.size i wx))
        case first =>
          obtain ⟨w0, hw0⟩ : ∃ w0, w0 = wr.alloc (.cells #[.int .u8 what, .int .i64 i, .int .i64 num, .slice xa xn xc] 28) := ⟨_, rfl⟩
          rw [← hw0]
          have hf0 : Fr (fun _ => False) wr w0 := by rw [hw0]; exact (Fr.refl _ wr).alloc _
          have hrow0 : w0.heap[wr.heap.size]? = some (.cells #[.int .u8 what, .int .i64 i, .int .i64 num, .slice xa xn xc] 28 (0, 0)) := by rw [hw0]; exact heap_alloc_new wr _
          have e1 : w0.cell? ⟨wr.heap.size, 1, none⟩ = some (.int .i64 i) := by rw [cell_of_row _ _ _ _ _ _ hrow0]; rfl
          have e2 : w0.cell? ⟨wr.heap.size, 2, none⟩ = some (.int .i64 num) := by rw [cell_of_row _ _ _ _ _ _ hrow0]; rfl
          have e3 : w0.cell? ⟨wr.heap.size, 3, none⟩ = some (.slice xa xn xc) := by rw [cell_of_row _ _ _ _ _ _ hrow0]; rfl
          have hv0 := HV.out.fr hf0 (by simp) (by simp)
          have hr0 := ownsRow_fr HW.out hf0 (by simp)
          have hb0 : Below w.heap.size w w0 := HB.out.trans (hf0.below hsz (by simp))
          have hs0 : w0.heap.size = wr.heap.size + 1 := by rw [hw0]; simp [World.size_alloc]
          have hx0 := HF.out.2.2.2.1.below hb0
          have hpl := HV.out.lt
          have hrl := HV.out.rowLt
          have HRL := Lib.hid hrl
          have HV0 := Lib.hid hv0
          have HR0 := Lib.hid hr0
          have HB0 := Lib.hid hb0
          have HX0 := Lib.hid hx0
          clear hw0 hrow0 f0 f1 f2 f3 hrl hb0 hr0 hf0
          by_cases q0 : what.tmod 3 = 0
          ·
            as_aux_lemma =>
              by_cases hin : 0 ≤ i ∧ i ≤ (N : Int)
              · obtain ⟨q, rfl⟩ : ∃ q : Nat, i = q := ⟨i.toNat, by omega⟩
                have hxw : SrcV w 1 (.slice xa xn xc) xn (xs.map (.int .i64)) := HF.out.2.2.2.1
                have hins := VecI.insert_in w.heap.size p r N _ q _ xn _ w0 hv0 h1y hx0 (fun h0 j hj hr => by have := hxw.blkLt (by omega) j hj; have := (HRL.out j hr).1; omega) (by omega) (by omega) (by omega)
                have hq0 := hin.1
                have hq1 := hin.2
                have hqN : q ≤ N := by omega
                clear hv0 hx0 hin
                go_wp2_with fail
                refine hins.mono ?_
                rintro e w4 ⟨rfl, r4, hv4, hf4, hr4⟩
                clear hins
                have hS4 : ∀ j, (Value.slice b N c).ownBlock = some j → ¬ (j = p ∨ r = some j) := fun j hj h => by
                  have := HS.out j hj
                  rcases h with h | h
                  · exact this.1 h
                  · exact this.2 h
                have ho4 := ownsRow_fr HR0.out hf4 hS4
                have hne : ¬ (wr.heap.size = p ∨ r = some wr.heap.size) := fun h => by
                  rcases h with h | h
                  · omega
                  · have := (HRL.out _ h).2
                    omega
                have d1 := hf4.cell e1 hne
                have d3 := hf4.cell e3 hne
                have hb4 : Below w.heap.size w w4 := HB0.out.trans (hf4.below HB0.out.size (fun j hj => by rcases hj with rfl | hj; omega; exact (HRL.out j hj).1))
                have hm6 : SrcV w4.drew 1 (.slice xa xn xc) xn (xs.map (.int .i64)) := HF.out.2.2.2.1.below hb4.drew
                have hl4 : SrcV w4.drew 1 (.slice b N c) N (ys.map (.int .i64)) := (SrcV.ofOwn ho4 h1y).drew
                have hs4 := hf4.size
                have hyl : ys.length = N := by have := ho4.1; simpa using this
                have hxl : xs.length = xn := by have := hm6.1; simpa using this
                have hw4 : wr.heap.size < w4.heap.size := by omega
                have HV4 := Lib.hid hv4
                have HB4 := Lib.hid hb4
                have HXL := Lib.hid hxl
                clear hv4 hf4 hS4 hne hb4 e1 e2 e3 hr4 hxl
                rcases ho4.2 with ⟨hv, h0⟩ | ⟨g, cap, cur, hv, hgb, hgg, hnc, hcm, _, _⟩
                · simp only [Value.slice.injEq] at hv
                  obtain ⟨rfl, _, rfl⟩ := hv
                  subst h0
                  obtain rfl : q = 0 := by omega
                  have hys : ys = [] := List.eq_nil_of_length_eq_zero hyl
                  subst hys
                  have hlt6 : SrcV w4.drew 1 (.slice none 0 0) 0 ([] : List Value) := SrcV.nil _ 1
                  have hld6 : SrcV w4.drew 1 (.slice none 0 0) 0 ([] : List Value) := SrcV.nil _ 1
                  have HLT : Hid (0 < 0 → ∀ j, blk (.slice none 0 0) = some j → ¬ w4.heap.size ≤ j) := fun h => by omega
                  clear hl4 ho4 hyl
                  go_wp2_with fail
                  go_region_held3 (fun w' => w'.cell? ⟨wr.heap.size, 1, none⟩ = some (.int .i64 (0 : Nat)) ∧ w'.cell? ⟨wr.heap.size, 3, none⟩ = some (.slice xa xn xc))
                    (first
                      | go_keep
                      | exact ⟨c17, c37⟩
                      | exact ⟨c18, c38⟩
                      | exact ⟨c19, c39⟩)
                    (first
                    | (refine step_append_srcv rfl (.const (.slice none 0 0)) (.tmp 97) 22 rfl w4.heap.size E i0 (.int .i64 0) 1 8 underS hi hz0 hz1 hz2 rfl (by decide) (.slice none 0 0) 0 [] (by first | (simp [Act.eval]; done) | simp [Act.eval, Act.put]) (World.ownsRow_nil w4.drew w4.heap.size E 1) (.slice (none) 0 0) 0 ([] : List Value) (by first | (simp [Act.eval]; done) | simp [Act.eval, Act.put]) hlt6 (by simp only [maxLen]; omega) (by omega) (Nat.le_refl _) ?_
                       intro b7 c7 w7 h7 g7 n7
                       have f7 : Fr (fun _ => False) w4.drew w7 := (Fr.refl _ _).grown g7 (by intro jj hk; simp [Value.ownBlock] at hk)
                       have hm7 : SrcV w7 1 (.slice xa xn xc) xn (xs.map (.int .i64)) := hm6.fr f7 (by simp)
                       have hs7 := f7.size
                       have c17 := f7.cell d1 (by simp)
                       have c37 := f7.cell d3 (by simp)
                       have F7 := Lib.hid f7
                       simp only [Nat.zero_add, List.nil_append] at h7
                       clear g7 n7 f7)
                    | (refine step_append_srcv rfl (.tmp 98) (.tmp 100) 22 rfl w4.heap.size E i0 (.int .i64 0) 1 8 underS hi hz0 hz1 hz2 rfl (by decide) (.slice b7 0 c7) 0 ([] : List Value) (by first | (simp [Act.eval]; done) | simp [Act.eval, Act.put]) h7 (.slice xa xn xc) xn (xs.map (.int .i64)) (by first | (simp [Act.eval]; done) | simp [Act.eval, Act.put]) hm7 (by simp only [maxLen]; omega) (by omega) hs7 ?_
                       intro b8 c8 w8 h8 g8 n8
                       have f8 : Fr (fun j => w4.heap.size ≤ j) w7 w8 := (Fr.refl _ _).grown g8 (by intro jj hk _; exact (h7.lt jj (by simpa [Act.eval] using hk)).1)
                       have hd8 : SrcV w8 1 (.slice none 0 0) 0 ([] : List Value) := (hld6.fr F7.out (by simp)).fr f8 HLT.out
                       have hs8 : w4.heap.size ≤ w8.heap.size := Nat.le_trans hs7 f8.size
                       have c18 := f8.cell c17 (by simp; omega)
                       have c38 := f8.cell c37 (by simp; omega)
                       have F8 := Lib.hid f8
                       clear g8 n8 f8)
                    | (refine step_append_srcv rfl (.tmp 101) (.tmp 105) 22 rfl w4.heap.size E i0 (.int .i64 0) 1 8 underS hi hz0 hz1 hz2 rfl (by decide) (.slice b8 (0 + xn) c8) (0 + xn) (([] : List Value) ++ xs.map (.int .i64)) (by first | (simp [Act.eval]; done) | simp [Act.eval, Act.put]) h8 (.slice none 0 0) 0 ([] : List Value) (by first | (simp [Act.eval]; done) | simp [Act.eval, Act.put]) hd8 (by simp only [maxLen]; omega) (by omega) hs8 ?_
                       intro wb wc w5 h9 g9 n9
                       have f9 : Fr (fun j => w4.heap.size ≤ j) w8 w5 := (Fr.refl _ _).grown g9 (by intro jj hk _; exact (h8.lt jj (by simpa [Act.eval] using hk)).1)
                       have c19 := f9.cell c18 (by simp; omega)
                       have c39 := f9.cell c38 (by simp; omega)
                       have F9 := Lib.hid f9
                       simp only [Nat.zero_add, Nat.add_zero, List.nil_append, List.append_nil] at h9
                       simp only [Nat.zero_add, Nat.add_zero]
                       clear g9 n9 f9))
                  have hf : Fr (fun j => w4.heap.size ≤ j) w4 w5 := ((Fr.drew (Fr.refl _ w4)).trans (F7.out.mono (fun _ _ h => h.elim))).trans (F8.out.trans F9.out)
                  have hv5 := HV4.out.fr hf (by have := HV4.out.lt; omega) (fun j hj => by have := HV4.out.rowLt j hj; omega)
                  have hb5 := HB4.out.trans (hf.below HB4.out.size (fun j hj => Nat.le_trans HB4.out.size hj))
                  have hsep5 : ∀ j, (Value.slice wb xn wc).ownBlock = some j → j ≠ p ∧ r4 ≠ some j := fun j hj => by
                    have h1 := (h9.lt j hj).1
                    have h2 := HV4.out.lt
                    refine ⟨by omega, fun h => ?_⟩
                    have := (HV4.out.rowLt j h).2
                    omega
                  have HX5 := Lib.hid (And.intro hv5 (And.intro hb5 (And.intro hsep5 (And.intro h9 c19))))
                  clear hv5 hb5 hsep5 h9 c19 c39 h8 h7 hm7 hd8 c17 c37 c18 c38 hf hm6 hlt6 hld6 d1 d3
                  go_wp2
                  go_meet
                  case rel => exact ⟨xn, xs, r4, wb, wc, rfl, ⟨by omega, by have := HX5.out.1; simpa using this, ownsRow_mono HX5.out.2.2.2.1 HB4.out.size, HX5.out.2.2.1, HX5.out.2.1, HX5.out.2.2.2.2⟩⟩
                · simp only [Value.slice.injEq] at hv
                  obtain ⟨rfl, _, rfl⟩ := hv
                  have hlc2 : c ≤ 9223372036854775807 := by simpa [maxLen] using hcm
                  have hqc : q ≤ c := by omega
                  have hlt6 := hl4.take hqN
                  obtain ⟨A, hA, hld6⟩ := hl4.drop hqN
                  rw [Nat.zero_add] at hA
                  have HLT : Hid (0 < N - q → ∀ j, blk (.slice (some A) (N - q) (c - q)) = some j → ¬ w4.heap.size ≤ j) := fun hkq j hj h => by
                    have hb : g = j := by
                      by_cases hck : c = q
                      · rw [if_pos hck] at hA; injection hA with hA; subst hA; simpa [blk] using hj
                      · rw [if_neg hck] at hA; injection hA with hA; subst hA; simpa [blk] using hj
                    subst hb
                    have := (ho4.lt g rfl).2
                    omega
                  have HH4 := Lib.hid ho4
                  clear hl4 ho4 hyl hgg
                  go_wp2_with fail
                  go_region_held3 (fun w' => w'.cell? ⟨wr.heap.size, 1, none⟩ = some (.int .i64 (q : Nat)) ∧ w'.cell? ⟨wr.heap.size, 3, none⟩ = some (.slice xa xn xc))
                    (first
                      | go_keep
                      | exact ⟨c17, c37⟩
                      | exact ⟨c18, c38⟩
                      | exact ⟨c19, c39⟩)
                    (first
                    | (refine step_append_srcv rfl (.const (.slice none 0 0)) (.tmp 97) 22 rfl w4.heap.size E i0 (.int .i64 0) 1 8 underS hi hz0 hz1 hz2 rfl (by decide) (.slice none 0 0) 0 [] (by first | (simp [Act.eval]; done) | simp [Act.eval, Act.put]) (World.ownsRow_nil w4.drew w4.heap.size E 1) (.slice (some ⟨g, 0, none⟩) q c) q ((ys.map (Value.int .i64)).take q) (by first | (simp [Act.eval]; done) | simp [Act.eval, Act.put]) hlt6 (by simp only [maxLen]; omega) (by omega) (Nat.le_refl _) ?_
                       intro b7 c7 w7 h7 g7 n7
                       have f7 : Fr (fun _ => False) w4.drew w7 := (Fr.refl _ _).grown g7 (by intro jj hk; simp [Value.ownBlock] at hk)
                       have hm7 : SrcV w7 1 (.slice xa xn xc) xn (xs.map (.int .i64)) := hm6.fr f7 (by simp)
                       have hs7 := f7.size
                       have c17 := f7.cell d1 (by simp)
                       have c37 := f7.cell d3 (by simp)
                       have F7 := Lib.hid f7
                       simp only [Nat.zero_add, List.nil_append] at h7
                       clear g7 n7 f7)
                    | (refine step_append_srcv rfl (.tmp 98) (.tmp 100) 22 rfl w4.heap.size E i0 (.int .i64 0) 1 8 underS hi hz0 hz1 hz2 rfl (by decide) (.slice b7 q c7) q ((ys.map (Value.int .i64)).take q) (by first | (simp [Act.eval]; done) | simp [Act.eval, Act.put]) h7 (.slice xa xn xc) xn (xs.map (.int .i64)) (by first | (simp [Act.eval]; done) | simp [Act.eval, Act.put]) hm7 (by simp only [maxLen]; omega) (by omega) hs7 ?_
                       intro b8 c8 w8 h8 g8 n8
                       have f8 : Fr (fun j => w4.heap.size ≤ j) w7 w8 := (Fr.refl _ _).grown g8 (by intro jj hk _; exact (h7.lt jj (by simpa [Act.eval] using hk)).1)
                       have hd8 : SrcV w8 1 (.slice (some A) (N - q) (c - q)) (N - q) ((ys.map (Value.int .i64)).drop q) := (hld6.fr F7.out (by simp)).fr f8 HLT.out
                       have hs8 : w4.heap.size ≤ w8.heap.size := Nat.le_trans hs7 f8.size
                       have c18 := f8.cell c17 (by simp; omega)
                       have c38 := f8.cell c37 (by simp; omega)
                       have F8 := Lib.hid f8
                       clear g8 n8 f8)
                    | (refine step_append_srcv rfl (.tmp 101) (.tmp 105) 22 rfl w4.heap.size E i0 (.int .i64 0) 1 8 underS hi hz0 hz1 hz2 rfl (by decide) (.slice b8 (q + xn) c8) (q + xn) (((ys.map (Value.int .i64)).take q) ++ xs.map (.int .i64)) (by first | (simp [Act.eval]; done) | simp [Act.eval, Act.put]) h8 (.slice (some A) (N - q) (c - q)) (N - q) ((ys.map (Value.int .i64)).drop q) (by simp [Act.eval]) hd8 (by simp only [maxLen]; omega) (by omega) hs8 ?_
                       intro wb wc w5 h9 g9 n9
                       have f9 : Fr (fun j => w4.heap.size ≤ j) w8 w5 := (Fr.refl _ _).grown g9 (by intro jj hk _; exact (h8.lt jj (by simpa [Act.eval] using hk)).1)
                       have c19 := f9.cell c18 (by simp; omega)
                       have c39 := f9.cell c38 (by simp; omega)
                       have F9 := Lib.hid f9
                       rw [show q + xn + (N - q) = N + xn by omega] at h9
                       rw [show q + xn + (N - q) = N + xn by omega]
                       clear g9 n9 f9))
                  have hf : Fr (fun j => w4.heap.size ≤ j) w4 w5 := ((Fr.drew (Fr.refl _ w4)).trans (F7.out.mono (fun _ _ h => h.elim))).trans (F8.out.trans F9.out)
                  have hv5 := HV4.out.fr hf (by have := HV4.out.lt; omega) (fun j hj => by have := HV4.out.rowLt j hj; omega)
                  have hb5 := HB4.out.trans (hf.below HB4.out.size (fun j hj => Nat.le_trans HB4.out.size hj))
                  have hsep5 : ∀ j, (Value.slice wb (N + xn) wc).ownBlock = some j → j ≠ p ∧ r4 ≠ some j := fun j hj => by
                    have h1 := (h9.lt j hj).1
                    have h2 := HV4.out.lt
                    refine ⟨by omega, fun h => ?_⟩
                    have := (HV4.out.rowLt j h).2
                    omega
                  have HX5 := Lib.hid (And.intro hv5 (And.intro hb5 (And.intro hsep5 (And.intro h9 c19))))
                  clear hv5 hb5 hsep5 h9 c19 c39 h8 h7 hm7 hd8 c17 c37 c18 c38 hf hm6 hlt6 hld6 d1 d3
                  go_wp2
                  go_meet
                  case rel => exact ⟨N + xn, ys.take q ++ xs ++ ys.drop q, r4, wb, wc, rfl, ⟨by omega, by have := HX5.out.1; simpa [List.map_take, List.map_drop] using this, by have := ownsRow_mono HX5.out.2.2.2.1 HB4.out.size; simpa [List.map_take, List.map_drop] using this, HX5.out.2.2.1, HX5.out.2.1, HX5.out.2.2.2.2⟩⟩
              · have hins := VecI.insert_out w.heap.size p r N _ i (.slice xa xn xc) w0 hv0 hin
                have hor : i < 0 ∨ (0 ≤ i ∧ (N : Int) < i) := by omega
                clear hv0 hx0 hin
                rcases hor with ho | ⟨ho, ho2⟩
                all_goals
                  go_wp2_with fail
                  refine hins.mono ?_
                  rintro e w' ⟨rfl, rfl⟩
                  clear hins
                  go_wp2
                  go_meet
                  case rel => exact ⟨N, ys, r, b, c, rfl, ⟨by omega, HV0.out, HR0.out, HS.out, HB0.out, e1⟩⟩
          · by_cases q1 : what.tmod 3 = 1
            ·
              as_aux_lemma =>
                have hnw : (Lit.int .i64 num).wf = true := HF.out.2.2.1
                have hn64 : num ≤ 9223372036854775807 ∧ -9223372036854775808 ≤ num := by
                  have := hnw
                  simp [Lit.wf, IntKind.min, IntKind.max, IntKind.signed, IntKind.bits] at this
                  omega
                obtain ⟨hn64, hn65⟩ := hn64
                by_cases hin : 0 ≤ i ∧ i < (N : Int)
                · obtain ⟨q, rfl⟩ : ∃ q : Nat, i = q := ⟨i.toNat, by omega⟩
                  have hq0 := hin.1
                  have hq1 := hin.2
                  have hqN : q < N := by omega
                  by_cases hnum : 1 ≤ num
                  · obtain ⟨d, hd⟩ : ∃ d : Nat, (d : Int) = min num ((N : Int) - q) := ⟨(min num ((N : Int) - q)).toNat, by omega⟩
                    have hd1 : 1 ≤ d := by omega
                    have hd2 : q + d ≤ N := by omega
                    have hdel := VecI.delete_in w.heap.size p r N _ q d num w0 hv0 h1y hqN hnum hn64 hd (by omega)
                    have hmx : max num 0 = num := by omega
                    have hmn : min num ((N : Int) - (q : Int)) = (d : Int) := hd.symm
                    have hdz : ((d : Int) == 0) = false := by simp; omega
                    have hdz2 : ¬ ((d : Int) = 0) := by omega
                    clear hv0 hx0 hin hd hnw
                    go_wp2_with fail
                    refine hdel.mono ?_
                    rintro e w4 ⟨db, dc, rfl, hd4, hv4, hf4⟩
                    clear hdel
                    have hS4 : ∀ j, (Value.slice b N c).ownBlock = some j → ¬ (j = p ∨ r = some j) := fun j hj h => by
                      have := HS.out j hj
                      rcases h with h | h
                      · exact this.1 h
                      · exact this.2 h
                    have ho4 := ownsRow_fr HR0.out hf4 hS4
                    have hne : ¬ (wr.heap.size = p ∨ r = some wr.heap.size) := fun h => by
                      rcases h with h | h
                      · omega
                      · have := (HRL.out _ h).2
                        omega
                    have d1 := hf4.cell e1 hne
                    have hb4 : Below w.heap.size w w4 := HB0.out.trans (hf4.below HB0.out.size (fun j hj => by rcases hj with rfl | hj; omega; exact (HRL.out j hj).1))
                    have hs4 := hf4.size
                    have hw4 : wr.heap.size < w4.heap.size := by omega
                    obtain ⟨g, rfl⟩ : ∃ g, b = some ⟨g, 0, none⟩ := by
                      rcases ho4.2 with ⟨h, h0⟩ | ⟨g, cap, cur, h, _⟩
                      · omega
                      · simp only [Value.slice.injEq] at h; exact ⟨g, h.1⟩
                    have hsc : N ≤ c ∧ c ≤ 9223372036854775807 := by
                      rcases ho4.2 with ⟨h, h0⟩ | ⟨g, cap, cur, h, _, _, hnc, hm, _⟩
                      · omega
                      · simp only [Value.slice.injEq] at h; unfold maxLen at hm; omega
                    obtain ⟨hsc1, hsc2⟩ := hsc
                    have hsrc : SrcV w4 1 (.slice (some ⟨g, q, none⟩) d (c - q)) d (((ys.drop q).take d).map (Value.int .i64)) := by
                      rw [List.map_take, List.map_drop]
                      have hl := ho4.1
                      refine ⟨by simp at hl ⊢; omega, fun u hu => h1y u (List.mem_of_mem_drop (List.mem_of_mem_take hu)), by simp only [maxLen]; omega, .inr ⟨g, q, c - q, rfl, by omega, by simp only [maxLen]; omega, fun j u hj => ?_⟩⟩
                      have hlt := (List.getElem?_eq_some_iff.1 hj).1
                      simp at hlt hl
                      rw [List.getElem?_take, if_pos (by omega), List.getElem?_drop] at hj
                      rw [ho4.cellAt (q + j) (by omega)]
                      exact hj
                    have hdsrc : SrcV w4 1 (.slice db d dc) d (((ys.drop q).take d).map (Value.int .i64)) := by
                      rw [List.map_take, List.map_drop]
                      exact SrcV.ofOwn hd4 (fun u hu => h1y u (List.mem_of_mem_drop (List.mem_of_mem_take hu)))
                    have hsm := Joins.same_any db (some ⟨g, q, none⟩) d dc (c - q) ((ys.drop q).take d) w4 hdsrc hsrc (by omega)
                    have hni : ¬ (c = q) := by omega
                    have htn : ((q : Int) + (d : Int)).toNat = q + d := by omega
                    have HV4 := Lib.hid hv4
                    have HO4 := Lib.hid ho4
                    have HB4 := Lib.hid hb4
                    clear hv4 hf4 hS4 ho4 hne hb4 e1 e2 e3 hd4 hsrc hdsrc
                    go_wp2_with fail
                    refine hsm.mono ?_
                    rintro e w5 ⟨rfl, hb5⟩
                    clear hsm
                    have hF5 := Fr.ofBelow hb5 (fun _ => False)
                    have d15 := hF5.cell d1 (by simp)
                    have hv5 := HV4.out.fr hF5 (by simp) (by simp)
                    have hb5' := HB4.out.trans (hb5.mono HB4.out.size)
                    have ho5 := ownsRow_fr HO4.out hF5 (by simp)
                    have hgl := (HO4.out.lt g rfl).2
                    have hl5 : SrcV w5.drew 1 (.slice (some ⟨g, 0, none⟩) N c) N (ys.map (.int .i64)) := (SrcV.ofOwn ho5 h1y).drew
                    have hs5 := hb5.size
                    have hw5 : wr.heap.size < w5.heap.size := by omega
                    have hlt6 := hl5.take (Nat.le_of_lt hqN)
                    obtain ⟨A, hA, hld6⟩ := hl5.drop hd2
                    rw [Nat.zero_add] at hA
                    have HV5 := Lib.hid hv5
                    have HB5 := Lib.hid hb5'
                    have hsc3 : q ≤ c ∧ q + d ≤ c := by omega
                    obtain ⟨hsc3, hsc4⟩ := hsc3
                    have hwr : IntKind.i64.wrap ((q : Int) + (d : Int)) = (q : Int) + (d : Int) := IntWalk.i64_in _ (by omega)
                    have hs0' : (0 : Int) ≤ (q : Int) + (d : Int) := by omega
                    have hs1' : (q : Int) + (d : Int) ≤ (N : Int) := by omega
                    clear hF5 hv5 hb5' ho5 hl5 hb5 d1 hsc1
                    go_wp2_with fail
                    go_region_held3 (fun w' => w'.cell? ⟨wr.heap.size, 1, none⟩ = some (.int .i64 (q : Nat)))
                      (first
                        | go_keep
                        | exact c17
                        | exact c18)
                      (first
                      | (refine step_append_srcv rfl (.const (.slice none 0 0)) (.tmp 153) 22 rfl w5.heap.size E i0 (.int .i64 0) 1 8 underS hi hz0 hz1 hz2 rfl (by decide) (.slice none 0 0) 0 [] (by first | (simp [Act.eval]; done) | simp [Act.eval, Act.put]) (World.ownsRow_nil w5.drew w5.heap.size E 1) (.slice (some ⟨g, 0, none⟩) q c) q ((ys.map (Value.int .i64)).take q) (by first | (simp [Act.eval]; done) | simp [Act.eval, Act.put]) hlt6 (by simp only [maxLen]; omega) (by omega) (Nat.le_refl _) ?_
                         intro b7 c7 w7 h7 g7 n7
                         have f7 : Fr (fun _ => False) w5.drew w7 := (Fr.refl _ _).grown g7 (by intro jj hk; simp [Value.ownBlock] at hk)
                         have hd7 : SrcV w7 1 (.slice (some A) (N - (q + d)) (c - (q + d))) (N - (q + d)) ((ys.map (Value.int .i64)).drop (q + d)) := hld6.fr f7 (by simp)
                         have hs7 := f7.size
                         have c17 := f7.cell d15 (by simp)
                         have F7 := Lib.hid f7
                         simp only [Nat.zero_add, List.nil_append] at h7
                         clear g7 n7 f7)
                      | (refine step_append_srcv rfl (.tmp 154) (.tmp 160) 22 rfl w5.heap.size E i0 (.int .i64 0) 1 8 underS hi hz0 hz1 hz2 rfl (by decide) (.slice b7 q c7) q ((ys.map (Value.int .i64)).take q) (by first | (simp [Act.eval]; done) | simp [Act.eval, Act.put]) h7 (.slice (some A) (N - (q + d)) (c - (q + d))) (N - (q + d)) ((ys.map (Value.int .i64)).drop (q + d)) (by simp [Act.eval]) hd7 (by simp only [maxLen]; omega) (by omega) hs7 ?_
                         intro wb wc w8 h8 g8 n8
                         have f8 : Fr (fun j => w5.heap.size ≤ j) w7 w8 := (Fr.refl _ _).grown g8 (by intro jj hk _; exact (h7.lt jj (by simpa [Act.eval] using hk)).1)
                         have c18 := f8.cell c17 (by simp; omega)
                         have F8 := Lib.hid f8
                         rw [show q + (N - (q + d)) = N - d by omega] at h8
                         rw [show q + (N - (q + d)) = N - d by omega]
                         clear g8 n8 f8))
                    have hf : Fr (fun j => w5.heap.size ≤ j) w5 w8 := ((Fr.drew (Fr.refl _ w5)).trans (F7.out.mono (fun _ _ h => h.elim))).trans F8.out
                    have hv8 := HV5.out.fr hf (by have := HV5.out.lt; omega) (fun j hj => by have := HV5.out.rowLt j hj; omega)
                    have hb8 := HB5.out.trans (hf.below HB5.out.size (fun j hj => Nat.le_trans HB5.out.size hj))
                    have hsep8 : ∀ j, (Value.slice wb (N - d) wc).ownBlock = some j → j ≠ p ∧ r ≠ some j := fun j hj => by
                      have h1 := (h8.lt j hj).1
                      have h2 := HV5.out.lt
                      refine ⟨by omega, fun h => ?_⟩
                      have := (HV5.out.rowLt j h).2
                      omega
                    have HX8 := Lib.hid (And.intro hv8 (And.intro hb8 (And.intro hsep8 (And.intro h8 c18))))
                    clear hv8 hb8 hsep8 h8 c18 h7 hd7 c17 hf hlt6 hld6 d15
                    go_wp2
                    go_meet
                    case rel => exact ⟨N - d, ys.take q ++ ys.drop (q + d), r, wb, wc, rfl, ⟨by omega, by have := HX8.out.1; simpa [List.map_take, List.map_drop] using this, by have := ownsRow_mono HX8.out.2.2.2.1 HB5.out.size; simpa [List.map_take, List.map_drop] using this, HX8.out.2.2.1, HX8.out.2.1, HX8.out.2.2.2.2⟩⟩
                  · have hdel := VecI.delete_none w.heap.size p r N _ q num w0 hv0 (.inr (by omega))
                    have hmx : max num 0 = 0 := by omega
                    have hmn : min 0 ((N : Int) - (q : Int)) = 0 := by omega
                    clear hv0 hx0 hin hnw
                    go_wp2_with fail
                    refine hdel.mono ?_
                    rintro e w' ⟨rfl, rfl⟩
                    clear hdel
                    go_wp2
                    go_roundw
                    case rel => exact ⟨k + 1, N, ys, r, b, c, ⟨rfl, by go_num, by omega, by omega, HV0.out, HR0.out, HS.out, HB0.out⟩⟩
                    case measure => simp [RowKit.intOf]; omega
                · have hdel := VecI.delete_none w.heap.size p r N _ i num w0 hv0 (.inl hin)
                  have hor : i < 0 ∨ (0 ≤ i ∧ (N : Int) ≤ i) := by omega
                  clear hv0 hx0 hin hnw
                  rcases hor with ho | ⟨ho, ho2⟩
                  all_goals
                    go_wp2_with fail
                    refine hdel.mono ?_
                    rintro e w' ⟨rfl, rfl⟩
                    clear hdel
                    go_wp2
                    go_roundw
                    case rel => exact ⟨k + 1, N, ys, r, b, c, ⟨rfl, by go_num, by omega, by omega, HV0.out, HR0.out, HS.out, HB0.out⟩⟩
                    case measure => simp [RowKit.intOf]; omega
            · by_cases hin : 0 ≤ i ∧ i < (N : Int)
              · obtain ⟨q, rfl⟩ : ∃ q : Nat, i = q := ⟨i.toNat, by omega⟩
                have hset := VecI.set_in w.heap.size p r N _ q num w0 hv0 (by omega) (by omega)
                have hq0 := hin.1
                have hq1 := hin.2
                clear hv0 hx0 hin
                as_aux_lemma =>
                  go_wp2_with fail
                  refine hset.mono ?_
                  rintro e w4 ⟨rfl, hv4, hf4⟩
                  clear hset
                  have hS4 : ∀ j, (Value.slice b N c).ownBlock = some j → ¬ (j = p ∨ r = some j) := fun j hj h => by
                    have := HS.out j hj
                    rcases h with h | h
                    · exact this.1 h
                    · exact this.2 h
                  have ho4 := ownsRow_fr HR0.out hf4 hS4
                  have hne : ¬ (wr.heap.size = p ∨ r = some wr.heap.size) := fun h => by
                    rcases h with h | h
                    · omega
                    · have := (HRL.out _ h).2
                      omega
                  have d1 := hf4.cell e1 hne
                  have d2 := hf4.cell e2 hne
                  have hb4 : Below w.heap.size w w4 := HB0.out.trans (hf4.below HB0.out.size (fun j hj => by rcases hj with rfl | hj; omega; exact (HRL.out j hj).1))
                  have hl4 := SrcV.ofOwn ho4 h1y
                  have hs4 := hf4.size
                  have HV4 := Lib.hid hv4
                  have HB4 := Lib.hid hb4
                  clear hv4 hf4 hS4 ho4 hne hb4 e1 e2 e3
                  go_upto_region 19 with (at_builtin; go_must (refine append_srcv _ rfl _ _ 22 rfl w4.heap.size E i0 (.int .i64 0) 1 8 underS hi hz0 hz1 hz2 rfl (by decide) _ 0 [] rfl (World.ownsRow_nil w4 w4.heap.size E 1) _ N (ys.map (.int .i64)) rfl hl4 (by simp only [maxLen]; omega) (by omega) (Nat.le_refl _) ?_); intro gb' gc' w5 hown5 hg5 hnr5)
                  simp only [Nat.zero_add, List.nil_append] at hown5
                  have hf5 : Fr (fun _ => False) w4 w5 := (Fr.refl _ w4).grown hg5 (by intro k hk; simp [Value.ownBlock, Act.eval] at hk)
                  obtain ⟨g, rfl⟩ : ∃ g, gb' = some ⟨g, 0, none⟩ := by
                    rcases hown5.2 with ⟨h, h0⟩ | ⟨g, cap, cur, h, _⟩
                    · omega
                    · simp only [Value.slice.injEq] at h; exact ⟨g, h.1⟩
                  obtain ⟨old, hx⟩ : ∃ u, w5.cell? ⟨g, q, none⟩ = some u := ⟨_, (hown5.cellAt q (by omega)).trans (List.getElem?_eq_getElem (by have := hown5.1; omega))⟩
                  have hfz := hown5.frozenAt q
                  have hst := hown5.stored q (.int .i64 num)
                  have hgl := hown5.lt g rfl
                  have d15 := hf5.cell d1 (by simp)
                  have d25 := hf5.cell d2 (by simp)
                  have hv5 := HV4.out.fr hf5 (by simp) (by simp)
                  have hb5 := HB4.out.trans (hf5.below HB4.out.size (by simp))
                  have h4l := HV4.out.lt
                  have h4r := HV4.out.rowLt
                  have h6 : wr.heap.size ≠ g := by omega
                  have hv6 := hv5.fr (Fr.setCell (S := fun b => b = g) (p := ⟨g, q, none⟩) (Fr.refl _ _) (fun _ => rfl) (.int .i64 num)) (by omega) (fun j hj => by have := (h4r j hj).2; omega)
                  have hb6 := hb5.setCell (p := ⟨g, q, none⟩) (by show _ ≤ g; have := HB4.out.size; omega) (.int .i64 num)
                  have d16 := (Fr.setCell (S := fun b => b = g) (p := ⟨g, q, none⟩) (Fr.refl _ w5) (fun _ => rfl) (.int .i64 num)).cell d15 h6
                  have hsep : ∀ j, g = j → j ≠ p ∧ r ≠ some j := fun j hj => by
                    subst hj
                    refine ⟨by omega, fun h => ?_⟩
                    have := (h4r _ h).2
                    omega
                  have HST := Lib.hid hst
                  have HV6 := Lib.hid hv6
                  have HB6 := Lib.hid hb6
                  have HD6 := Lib.hid d16
                  have HSEP := Lib.hid hsep
                  clear hst hv6 hb6 d16 hsep hv5 hb5 hown5 hg5 hnr5 hf5 h4r hl4
                  go_wp2
                  go_meet
                  case rel => exact ⟨N, ys.set q num, r, some ⟨g, 0, none⟩, gc', rfl, ⟨by omega, by rw [List.map_set]; exact HV6.out, by rw [List.map_set]; exact ownsRow_mono HST.out.1 (by have := HB4.out.size; omega), fun j hj => HSEP.out j (by simpa [Value.ownBlock] using hj), HB6.out, HD6.out⟩⟩
              ·
                as_aux_lemma =>
                  have hset := VecI.set_out w.heap.size p r N _ i num w0 hv0 hin
                  have hor : i < 0 ∨ (0 ≤ i ∧ (N : Int) ≤ i) := by omega
                  clear hv0 hx0 hin
                  rcases hor with ho | ⟨ho, ho2⟩
                  all_goals
                    go_wp2_with fail
                    refine hset.mono ?_
                    rintro e w' ⟨rfl, rfl⟩
                    clear hset
                    go_wp2
                    go_meet
                    case rel => exact ⟨N, ys, r, b, c, rfl, ⟨by omega, HV0.out, HR0.out, HS.out, HB0.out, e1⟩⟩
        case rest =>
          as_aux_lemma =>
            obtain ⟨N', ys', r', b', c', rfl, hM⟩ := hcut
            obtain ⟨hfew', hvec', hrow', hsep', hbel', fi⟩ := hM.out
            have hsz' := hbel'.size
            have h1y' : ∀ u ∈ ys'.map (Value.int .i64), u.oneCell' = true := fun u hu => by obtain ⟨s, _, rfl⟩ := List.mem_map.1 hu; rfl
            have hN' : N' ≤ 850 := by omega
            have hall := VecI.all_any w.heap.size p r' N' ys' b' c' wc hvec' (by omega) (SrcV.ofOwn hrow' h1y')
            have hyl' : (ys'.map (Value.int .i64)).length = N' := by have := hrow'.1; simpa using this
            have HV' := Lib.hid hvec'
            have HW' := Lib.hid hrow'
            have HS' := Lib.hid hsep'
            have HB' := Lib.hid hbel'
            by_cases hin : 0 ≤ i ∧ i < (N' : Int)
            · obtain ⟨q, rfl⟩ : ∃ q : Nat, i = q := ⟨i.toNat, by omega⟩
              obtain ⟨z, hz⟩ := map_int ys' q (by rw [hyl']; omega)
              have hat := VecI.at_in w.heap.size p r' N' _ q z wc hvec' (by omega) (by omega) hz
              rcases hrow'.2 with ⟨_, h0⟩ | ⟨g, cap, cur, hv, _, _, hnc, hcm, _, _⟩
              · omega
              simp only [Value.slice.injEq] at hv
              obtain ⟨rfl, _, rfl⟩ := hv
              have fz : wc.cell? ⟨g, q, none⟩ = some (.int .i64 z) := by
                have := hrow'.cells (g := g) rfl q _ hz
                simpa [Addr.add_lit] using this
              have hzz : (z != z) = false := by simp
              have hq0 := hin.1
              have hq1 := hin.2
              have hcm' : c' ≤ 9223372036854775807 := by simpa [maxLen] using hcm
              clear hin hM hvec' hrow' hsep' hbel' hz hyl' h1y' f0 f1 f2 f3
              go_wp2_with fail
              refine hat.mono ?_
              rintro e w' ⟨rfl, rfl⟩
              clear hat
              go_wp2_with fail
              refine hall.mono ?_
              rintro e w' ⟨rfl, hb'⟩
              have hF' := Fr.ofBelow hb' (fun _ => False)
              go_wp2
              go_roundw
              case rel => exact ⟨k + 1, N', ys', r', _, _, ⟨rfl, by go_num, by omega, hfew', HV'.out.fr hF' (by simp) (by simp), ownsRow_fr HW'.out hF' (by simp), HS'.out, HB'.out.trans (hb'.mono hsz')⟩⟩
              case measure => simp [RowKit.intOf]; omega
            · have hat := VecI.at_out w.heap.size p r' N' _ i wc hvec' hin
              have hor : i < 0 ∨ (0 ≤ i ∧ (N' : Int) ≤ i) := by omega
              clear hin hM hvec' hrow' hsep' hbel' hyl' h1y' f0 f1 f2 f3
              rcases hor with ho | ⟨ho, ho2⟩
              all_goals
                go_wp2_with fail
                refine hat.mono ?_
                rintro e w' ⟨rfl, rfl⟩
                clear hat
                go_wp2_with fail
                refine hall.mono ?_
                rintro e w' ⟨rfl, hb'⟩
                have hF' := Fr.ofBelow hb' (fun _ => False)
                go_wp2
                go_roundw
                case rel => exact ⟨k + 1, N', ys', r', _, _, ⟨rfl, by go_num, by omega, hfew', HV'.out.fr hF' (by simp) (by simp), ownsRow_fr HW'.out hF' (by simp), HS'.out, HB'.out.trans (hb'.mono hsz')⟩⟩
                case measure => simp [RowKit.intOf]; omega
    ·
      as_aux_lemma =>
        obtain rfl : k = m := by omega
        have hall := VecI.all_any w.heap.size p r N ys b c wr hvec (by omega) (SrcV.ofOwn hrow h1y)
        have HB := Lib.hid hbel
        clear hR hvec hrow hsep hbel h1y
        go_wp2_with fail
        refine hall.mono ?_
        rintro e w' ⟨rfl, hb'⟩
        go_wp2
        go_ret
        exact ⟨rfl, HB.out.trans (hb'.mono hsz)⟩

end Go.Proofs.Ytfijpjnadgdfcaa.Plays
