/-
  The law PiecePlays, walked.
-/
import Derived.Test.YtiknnepmbkohiaaPActs
import Derived.LoopTactic
set_option linter.unusedVariables false
namespace Go.Proofs.Ytiknnepmbkohiaa.Tb
open Go Go.RowKit Go.Proofs.Ytiknnepmbkohiaa.Vk Go.Shelf

theorem TRel.drewN {w V : World} {t e u : Nat} {most : Int} {T : List UInt8} (h : TRel w t T most e u V) (n : Nat) : TRel w t T most e u (V.drewN n) := by
  obtain ⟨hb, F, np, ht⟩ := h
  exact ⟨⟨hb.os, hb.tape, hb.output, hb.size, hb.block⟩, F, np, ht.fr ((Fr.refl (fun _ => False) V).drewN n) (by simp)⟩
theorem TRel.whole {w V : World} {t e u : Nat} {most : Int} {s : ByteArray} (h : TRel w t s.data.toList most e u V) (hs : s.size ≤ 100000) (hu : u ≤ 400000) :
    Calls Try.prog 13 #[.pointer (some ⟨t, 0, none⟩), .string s, .int .i64 e] V fun x w' => x = .returned (.bool true) ∧ TRel w t s.data.toList most e u w' := by
  obtain ⟨hb, F, np, ht⟩ := h
  refine (whole_any ht s rfl (by rw [size_str]; exact hs) hu).mono ?_
  rintro x w' ⟨rfl, hb'⟩
  exact ⟨rfl, hb.trans (hb'.mono hb.size), F, np, ht.below hb'⟩

/-- A change leaves alone what lies beyond the table. -/
theorem changed_cell {V V' : World} {base t e' u' B i : Nat} {most : Int} {T' : List UInt8} {F : Nat → Prop} {v : Value} (hc : Changed V base t F T' most e' u' V') (hB : ¬ F B) (hv : V.cell? ⟨B, i, none⟩ = some v) : V'.cell? ⟨B, i, none⟩ = some v := by
  obtain ⟨F', np', _, hf, _⟩ := hc
  exact hf.cell hv hB

end Go.Proofs.Ytiknnepmbkohiaa.Tb

namespace Go.Proofs.Ytiknnepmbkohiaa.PPl
open Go Go.RowKit Go.Proofs.Ytiknnepmbkohiaa.Vk Go.Shelf Go.Proofs.Ytiknnepmbkohiaa.Tb Go.Proofs.Ytiknnepmbkohiaa.PActs
attribute [local go_sem] Oper.semAt_some

set_option maxRecDepth 100000 in
theorem long (s : ByteArray) (most : Int) (a : Option Addr) (n c : Nat) (w : World) (hs : s.size ≤ 140737488355328) (hn : n ≤ 9223372036854775807) (h : 200 < s.size ∨ 40 < n) :
    Calls Try.prog 3 #[.string s, .int .i64 most, .slice a n c] w fun e w' => e = .returned (.bool true) ∧ Below w.heap.size w w' := by
  by_cases h1 : 200 < s.size
  · have hd : decide (200 < (s.size : Int)) = true := by simp; omega
    clear h
    go_enter Try.func3, Try.ntmps3
    go_wp2_with (go_at_call 9; refine (known_any _).mono ?_; rintro e w1 ⟨rfl, hb⟩)
    go_ret
    exact ⟨rfl, hb⟩
  · have hd : decide (200 < (s.size : Int)) = false := by simp; omega
    have h2 : 40 < n := by omega
    have hd2 : decide (40 < (n : Int)) = true := by simp; omega
    clear h
    go_enter Try.func3, Try.ntmps3
    go_wp2_with (go_at_call 9; refine (known_any _).mono ?_; rintro e w1 ⟨rfl, hb⟩)
    go_ret
    exact ⟨rfl, hb⟩

set_option maxHeartbeats 4000000 in
set_option maxRecDepth 100000 in
theorem full (s : ByteArray) (most : Int) (a : Option Addr) (n c : Nat) (w : World) (hs : s.size ≤ 200) (hn : n ≤ 40) (hm : most.tmod 400 < s.size) (hm2 : -400 < most.tmod 400) :
    Calls Try.prog 3 #[.string s, .int .i64 most, .slice a n c] w fun e w' => e = .returned (.bool true) ∧ Below w.heap.size w w' := by
  have hd : decide (200 < (s.size : Int)) = false := by simp; omega
  have hd2 : decide (40 < (n : Int)) = false := by simp; omega
  obtain ⟨r, hr⟩ : ∃ r, most.tmod 400 = r := ⟨_, rfl⟩
  rw [hr] at hm hm2
  go_enter Try.func3, Try.ntmps3
  go_wp2_with (go_at_call 9; refine (known_any _).mono ?_; rintro e w1 ⟨rfl, hb1⟩)
  try rw [hr]
  refine (new_full s r w1 (by omega) hm).mono ?_
  rintro e w2 ⟨rfl, rfl⟩
  have d2 : decide (r < (s.size : Int)) = true := by simp; omega
  go_wp2_with fail
  go_ret
  exact ⟨rfl, hb1⟩

set_option maxHeartbeats 8000000 in
set_option maxRecDepth 100000 in
theorem short (s0 : ByteArray) (most : Int) (a : Option Addr) (n c : Nat) (ls : List ActD) (w : World) (hscr : Script w a n c ls) (hs : s0.size ≤ 200) (hn : n ≤ 40) (hm : (s0.size : Int) ≤ most.tmod 400) (hm2 : most.tmod 400 < 400) :
    Calls Try.prog 3 #[.string s0, .int .i64 most, .slice a n c] w fun e w' => e = .returned (.bool true) ∧ Below w.heap.size w w' := by
  have hd : decide (200 < (s0.size : Int)) = false := by simp; omega
  have hd2 : decide (40 < (n : Int)) = false := by simp; omega
  obtain ⟨r, hr⟩ : ∃ r, most.tmod 400 = r := ⟨_, rfl⟩
  rw [hr] at hm hm2
  go_enter Try.func3, Try.ntmps3
  go_wp2_with (go_at_call 9; refine (known_any _).mono ?_; rintro e w1 ⟨rfl, hb1⟩)
  try rw [hr]
  refine (new_ok s0 r w1 (by omega) hm (by omega)).mono ?_
  rintro e w2 ⟨t, F, np, rfl, ht, hb2⟩
  have hR0 : TRel w t s0.data.toList r 0 (400 + 62 * 0) w2 := ⟨hb1.trans (hb2.mono hb1.size), F, np, (ht.base_mono hb1.size).more (by omega)⟩
  have HR0 := Lib.hid hR0
  have d2 : decide (r < (s0.size : Int)) = false := by simp; omega
  clear ht hb1 hb2 hR0
  go_wp2_with fail
  try rw [hr]
  clear hr d2
  go_loopw [9, 10, 11] (fun u9 u10 u11 wr => ∃ (j e : Nat) (s : ByteArray), j ≤ n ∧ u11 = .int .i64 j ∧ u9 = .string s ∧ u10 = .int .i64 e ∧ (s.size : Int) ≤ r ∧ e ≤ j ∧ Hid (TRel w t s.data.toList r e (400 + 62 * j) wr)) (fun _ _ u11 _ => n - (RowKit.intOf u11).toNat)
  case atStart => exact ⟨0, 0, s0, Nat.zero_le _, rfl, rfl, rfl, hm, Nat.le_refl _, HR0⟩
  case round =>
    obtain ⟨j, e, s, hj, rfl, rfl, rfl, hsz, he, hR⟩ := hrel
    have hsl := size_str s
    by_cases hjn : j < n
    · obtain ⟨hmc, hcm, hll, hel⟩ := hscr
      have hkl : j < ls.length := by omega
      obtain ⟨hfit, sb, so, rfl, hcs⟩ := hel j _ (List.getElem?_eq_getElem hkl)
      generalize ls[j] = a at hfit hcs
      obtain ⟨what, off, num, x⟩ := a
      obtain ⟨hb, F', np', ht⟩ := hR.out
      have hF := Fr.ofBelow hb (fun _ => False)
      have f0 : wr.cell? ⟨sb, so + j * 4, none⟩ = some (.int .u8 what) := hF.cell (hcs 0 _ rfl) (by simp)
      have f1 : wr.cell? ⟨sb, so + j * 4 + 1, none⟩ = some (.int .i64 off) := hF.cell (hcs 1 _ rfl) (by simp)
      have f2 : wr.cell? ⟨sb, so + j * 4 + 2, none⟩ = some (.int .i64 num) := hF.cell (hcs 2 _ rfl) (by simp)
      have f3 : wr.cell? ⟨sb, so + j * 4 + 3, none⟩ = some (.string x) := hF.cell (hcs 3 _ rfl) (by simp)
      have hwhat : 0 ≤ what ∧ what ≤ 255 := by have := hfit.1; simpa [Lit.wf, IntKind.min, IntKind.max, IntKind.signed, IntKind.bits] using this
      have hoff : -9223372036854775808 ≤ off ∧ off ≤ 9223372036854775807 := by have := hfit.2.1; simpa [Lit.wf, IntKind.min, IntKind.max, IntKind.signed, IntKind.bits] using this
      have hnum : -9223372036854775808 ≤ num ∧ num ≤ 9223372036854775807 := by have := hfit.2.2.1; simpa [Lit.wf, IntKind.min, IntKind.max, IntKind.signed, IntKind.bits] using this
      obtain ⟨hwh0, hwh1⟩ := hwhat
      obtain ⟨ho0, ho1⟩ := hoff
      obtain ⟨hnu0, hnu1⟩ := hnum
      have hk0 : (0 : Int) ≤ (j : Int) := by omega
      have hk1 : (j : Int) < (n : Int) := by omega
      have HSIZ := hb.size
      clear hfit hel hcs hF
      by_cases h60 : 60 < x.size
      · have HB := Lib.hid hb
        clear hb ht hR
        go_wp2_with fail
        go_ret
        exact ⟨rfl, HB.out.alloc HSIZ _⟩
      · have hnB : ¬ F' wr.heap.size := fun h => by have := (ht.lt h).2; omega
        obtain ⟨w0, hw0⟩ : ∃ w0, w0 = wr.alloc (.cells #[.int .u8 what, .int .i64 off, .int .i64 num, .string x] 29) := ⟨_, rfl⟩
        have hrow0 : w0.heap[wr.heap.size]? = some (.cells #[.int .u8 what, .int .i64 off, .int .i64 num, .string x] 29 (0, 0)) := by rw [hw0]; exact heap_alloc_new wr _
        have e0 : w0.cell? ⟨wr.heap.size, 0, none⟩ = some (.int .u8 what) := by rw [cell_of_row _ _ _ _ _ _ hrow0]; rfl
        have e1 : w0.cell? ⟨wr.heap.size, 1, none⟩ = some (.int .i64 off) := by rw [cell_of_row _ _ _ _ _ _ hrow0]; rfl
        have e2 : w0.cell? ⟨wr.heap.size, 2, none⟩ = some (.int .i64 num) := by rw [cell_of_row _ _ _ _ _ _ hrow0]; rfl
        have e3 : w0.cell? ⟨wr.heap.size, 3, none⟩ = some (.string x) := by rw [cell_of_row _ _ _ _ _ _ hrow0]; rfl
        have hb0 : Below w.heap.size w w0 := by rw [hw0]; exact hb.alloc HSIZ _
        have ht0 : Tab w0 w.heap.size t F' s.data.toList r e np' (400 + 62 * j) := by rw [hw0]; exact ht.fr ((Fr.refl (fun _ => False) wr).alloc _) (by simp)
        have HT0 := Lib.hid (And.intro hb0 ht0)
        clear hrow0 hb ht hb0 ht0 hR
        have hw_j : IntKind.i64.wrap ((j : Int) + 1) = (j : Int) + 1 := by rw [IntKind.wrap_i64]; omega
        have hw_e : IntKind.i64.wrap ((e : Int) + 1) = (e : Int) + 1 := by rw [IntKind.wrap_i64]; omega
        have dj : decide ((j : Int) < n) = true := by simp; omega
        have d60 : decide (60 < (x.size : Int)) = false := by simp; omega
        by_cases hq : what % 3 < 2
        · have hw_sx : IntKind.i64.wrap ((s.size : Int) + x.size) = (s.size : Int) + x.size := by rw [IntKind.wrap_i64]; omega
          by_cases hin : 0 ≤ off ∧ off ≤ s.size
          · obtain ⟨q, rfl⟩ : ∃ q : Nat, off = q := ⟨off.toNat, by omega⟩
            obtain ⟨hq0, hq1⟩ := hin
            by_cases hfull : r < (s.size : Int) + x.size
            · have hins := insert_full HT0.out.2 q x ⟨hq0, by rw [hsl]; exact hq1⟩ (by omega) (by omega) (by rw [hsl]; exact hfull)
              as_aux_lemma =>
                go_wp2_with fail
                rw [← hw0]
                refine hins.mono ?_
                rintro e3 w3 ⟨rfl, hb3⟩
                have HR3 : Hid (TRel w t s.data.toList r e (400 + 62 * (j + 1)) w3) := Lib.hid (TRel.more (u := 400 + 62 * j) ⟨HT0.out.1.trans (hb3.mono HT0.out.1.size), F', np', HT0.out.2.below hb3⟩ (by omega))
                clear hins hw0 f0 f1 f2 f3 e0 e1 e2 e3 hb3
                have hwh := HR3.out.whole (by omega) (by omega)
                go_wp2_with fail
                refine hwh.mono ?_
                rintro e4 w4 ⟨rfl, hR4⟩
                have HR4 := Lib.hid hR4
                clear hR4 hwh
                go_wp2
                go_roundw
                case rel => exact ⟨j + 1, e, s, by omega, by go_num, rfl, rfl, by omega, by omega, HR4⟩
                case measure => simp [RowKit.intOf]; omega
            · have hins := insert_ok HT0.out.2 q x (by omega) (by omega) (by omega) (by omega)
              by_cases hx0 : x.size = 0
              · have hxe := empty_of_zero hx0
                as_aux_lemma =>
                  go_wp2_with fail
                  rw [← hw0]
                  refine hins.mono ?_
                  rintro e5 w3 ⟨rfl, hc3⟩
                  have c3 := changed_cell hc3 hnB e3
                  have hR3 := TRel.change HT0.out.1 HT0.out.2 hc3
                  rw [size_zero_list hx0, List.append_nil, List.take_append_drop, nz, if_pos hx0] at hR3
                  have HR3 := Lib.hid (hR3.more (u' := 400 + 62 * (j + 1)) (by omega))
                  clear hins hw0 f0 f1 f2 f3 e0 e1 e2 e3 hc3 hR3
                  have hwh := HR3.out.whole (by omega) (by omega)
                  go_wp2_with fail
                  refine hwh.mono ?_
                  rintro e4 w4 ⟨rfl, hR4⟩
                  have HR4 := Lib.hid hR4
                  clear hR4 hwh
                  go_wp2
                  go_roundw
                  case rel => exact ⟨j + 1, e, s, by omega, by go_num, rfl, rfl, by omega, by omega, HR4⟩
                  case measure => simp [RowKit.intOf]; omega
              · have hxe := empty_of_pos (x := x) (by omega)
                as_aux_lemma =>
                  go_wp2_with fail
                  rw [← hw0]
                  refine hins.mono ?_
                  rintro e5 w3 ⟨rfl, hc3⟩
                  have c1 := changed_cell hc3 hnB e1
                  have c3 := changed_cell hc3 hnB e3
                  have hR3 := TRel.change HT0.out.1 HT0.out.2 hc3
                  have hqs : q ≤ s.size := by omega
                  clear hins hw0 f0 f1 f2 f3 e0 e1 e2 e3 hc3
                  go_wp2_with fail
                  go_quiet (fail)
                  obtain ⟨u, hu⟩ : ∃ u, u = s.extract 0 q ++ x ++ s.extract q s.size := ⟨_, rfl⟩
                  have hul : u.data.toList = s.data.toList.take q ++ x.data.toList ++ s.data.toList.drop q := by rw [hu, put_list]
                  have hus : u.size = s.size + x.size := by rw [hu, put_size s x q hqs]
                  rw [← hu]
                  rw [← hul, nz, if_neg hx0] at hR3
                  have HR3 := Lib.hid ((hR3.more (u' := 400 + 62 * (j + 1)) (by omega)).drewN nq)
                  have hcast : ((e + 1 : Nat) : Int) = (e : Int) + 1 := by omega
                  clear hR3 hu hul
                  have hwh := HR3.out.whole (by omega) (by omega)
                  rw [hcast] at hwh
                  go_wp2_with fail
                  refine hwh.mono ?_
                  rintro e4 w4 ⟨rfl, hR4⟩
                  have HR4 := Lib.hid hR4
                  clear hR4 hwh
                  go_wp2
                  go_roundw
                  case rel => exact ⟨j + 1, e + 1, u, by omega, by go_num, rfl, by go_num, by omega, by omega, HR4⟩
                  case measure => simp [RowKit.intOf]; omega
          · have hins := insert_place HT0.out.2 off x (by rw [hsl]; exact hin)
            have HR3 : Hid (TRel w t s.data.toList r e (400 + 62 * (j + 1)) w0) := Lib.hid (TRel.more (u := 400 + 62 * j) ⟨HT0.out.1, F', np', HT0.out.2⟩ (by omega))
            rcases (show off < 0 ∨ (¬ off < 0 ∧ (s.size : Int) < off) by omega) with hn | ⟨hn, hn2⟩
            all_goals
              clear hin
              as_aux_lemma =>
                go_wp2_with fail
                rw [← hw0]
                refine hins.mono ?_
                rintro e5 w3 ⟨rfl, rfl⟩
                clear hins hw0 f0 f1 f2 f3 e0
                have hwh := HR3.out.whole (by omega) (by omega)
                go_wp2_with fail
                refine hwh.mono ?_
                rintro e4 w4 ⟨rfl, hR4⟩
                have HR4 := Lib.hid hR4
                clear hR4 hwh
                go_wp2
                go_roundw
                case rel => exact ⟨j + 1, e, s, by omega, by go_num, rfl, rfl, by omega, by omega, HR4⟩
                case measure => simp [RowKit.intOf]; omega
        · by_cases hin : inside s.data.toList off num
          · obtain ⟨h1, h2, h3, h4⟩ := hin
            rw [hsl] at h2 h4
            obtain ⟨p, rfl⟩ : ∃ p : Nat, off = p := ⟨off.toNat, by omega⟩
            obtain ⟨q, rfl⟩ : ∃ q : Nat, num = q := ⟨num.toNat, by omega⟩
            have hdel := delete_ok HT0.out.2 p q (by omega) (by omega) (by omega)
            have hw_d : IntKind.i64.wrap ((s.size : Int) - p) = (s.size : Int) - p := by rw [IntKind.wrap_i64]; omega
            by_cases hq0 : 0 < q
            · have hq0' : (0 : Int) < q := by omega
              as_aux_lemma =>
                go_wp2_with fail
                rw [← hw0]
                refine hdel.mono ?_
                rintro e5 w3 ⟨rfl, hc3⟩
                have c1 := changed_cell hc3 hnB e1
                have c2 := changed_cell hc3 hnB e2
                have hR3 := TRel.change HT0.out.1 HT0.out.2 hc3
                have hpq : (p : Int) + q ≤ s.size := by omega
                have hpq0 : (0 : Int) ≤ (p : Int) + q := by omega
                have hpqn : ((p : Int) + q).toNat = p + q := by omega
                have hw_6 : IntKind.i64.wrap ((p : Int) + q) = (p : Int) + q := by rw [IntKind.wrap_i64]; omega
                clear hdel hw0 f0 f1 f2 f3 e0 e1 e2 e3 hc3
                go_wp2_with fail
                go_quiet (fail)
                obtain ⟨u, hu⟩ : ∃ u, u = s.extract 0 p ++ s.extract (p + q) s.size := ⟨_, rfl⟩
                have hul : u.data.toList = s.data.toList.take p ++ s.data.toList.drop (p + q) := by rw [hu, Tb.cut_list]
                have hus : u.size ≤ s.size := by rw [← size_str u, hul]; simp; omega
                rw [← hu]
                rw [← hul, nz, if_neg (by omega)] at hR3
                have HR3 := Lib.hid ((hR3.more (u' := 400 + 62 * (j + 1)) (by omega)).drewN nq)
                have hcast : ((e + 1 : Nat) : Int) = (e : Int) + 1 := by omega
                clear hR3 hu hul
                have hwh := HR3.out.whole (by omega) (by omega)
                rw [hcast] at hwh
                go_wp2_with fail
                refine hwh.mono ?_
                rintro e4 w4 ⟨rfl, hR4⟩
                have HR4 := Lib.hid hR4
                clear hR4 hwh
                go_wp2
                go_roundw
                case rel => exact ⟨j + 1, e + 1, u, by omega, by go_num, rfl, by go_num, by omega, by omega, HR4⟩
                case measure => simp [RowKit.intOf]; omega
            · have hq0' : ¬ (0 : Int) < q := by omega
              as_aux_lemma =>
                go_wp2_with fail
                rw [← hw0]
                refine hdel.mono ?_
                rintro e5 w3 ⟨rfl, hc3⟩
                have c2 := changed_cell hc3 hnB e2
                have hR3 := TRel.change HT0.out.1 HT0.out.2 hc3
                obtain rfl : q = 0 := by omega
                rw [Nat.add_zero, List.take_append_drop, nz, if_pos rfl, Nat.add_zero] at hR3
                have HR3 := Lib.hid (hR3.more (u' := 400 + 62 * (j + 1)) (by omega))
                clear hdel hw0 f0 f1 f2 f3 e0 e1 e2 e3 hc3 hR3
                have hwh := HR3.out.whole (by omega) (by omega)
                go_wp2_with fail
                refine hwh.mono ?_
                rintro e4 w4 ⟨rfl, hR4⟩
                have HR4 := Lib.hid hR4
                clear hR4 hwh
                go_wp2
                go_roundw
                case rel => exact ⟨j + 1, e, s, by omega, by go_num, rfl, rfl, by omega, by omega, HR4⟩
                case measure => simp [RowKit.intOf]; omega
          · have hdel := delete_place HT0.out.2 off num hin
            have HR3 : Hid (TRel w t s.data.toList r e (400 + 62 * (j + 1)) w0) := Lib.hid (TRel.more (u := 400 + 62 * j) ⟨HT0.out.1, F', np', HT0.out.2⟩ (by omega))
            have hcs : off < 0 ∨ (¬ off < 0 ∧ num < 0) ∨ (¬ off < 0 ∧ ¬ num < 0 ∧ (s.size : Int) < off) ∨ (¬ off < 0 ∧ ¬ num < 0 ∧ ¬ (s.size : Int) < off ∧ (s.size : Int) - off < num) := by
              by_cases a1 : off < 0
              · exact .inl a1
              · by_cases a2 : num < 0
                · exact .inr (.inl ⟨a1, a2⟩)
                · by_cases a3 : (s.size : Int) < off
                  · exact .inr (.inr (.inl ⟨a1, a2, a3⟩))
                  · refine .inr (.inr (.inr ⟨a1, a2, a3, ?_⟩))
                    rcases Int.lt_or_le ((s.size : Int) - off) num with h | h
                    · exact h
                    · exact absurd ⟨by omega, by omega, by omega, by omega⟩ hin
            clear hin
            rcases hcs with a1 | ⟨a1, a2⟩ | ⟨a1, a2, a3⟩ | ⟨a1, a2, a3, a4⟩
            rotate_left 3
            · have hw_d : IntKind.i64.wrap ((s.size : Int) - off) = (s.size : Int) - off := by rw [IntKind.wrap_i64]; omega
              as_aux_lemma =>
                go_wp2_with fail
                rw [← hw0]
                refine hdel.mono ?_
                rintro e5 w3 ⟨rfl, rfl⟩
                clear hdel hw0 f0 f1 f2 f3 e0
                have hwh := HR3.out.whole (by omega) (by omega)
                go_wp2_with fail
                refine hwh.mono ?_
                rintro e4 w4 ⟨rfl, hR4⟩
                have HR4 := Lib.hid hR4
                clear hR4 hwh
                go_wp2
                go_roundw
                case rel => exact ⟨j + 1, e, s, by omega, by go_num, rfl, rfl, by omega, by omega, HR4⟩
                case measure => simp [RowKit.intOf]; omega
            all_goals
              as_aux_lemma =>
                go_wp2_with fail
                rw [← hw0]
                refine hdel.mono ?_
                rintro e5 w3 ⟨rfl, rfl⟩
                clear hdel hw0 f0 f1 f2 f3 e0
                have hwh := HR3.out.whole (by omega) (by omega)
                go_wp2_with fail
                refine hwh.mono ?_
                rintro e4 w4 ⟨rfl, hR4⟩
                have HR4 := Lib.hid hR4
                clear hR4 hwh
                go_wp2
                go_roundw
                case rel => exact ⟨j + 1, e, s, by omega, by go_num, rfl, rfl, by omega, by omega, HR4⟩
                case measure => simp [RowKit.intOf]; omega

    · obtain rfl : j = n := by omega
      have hwh := hR.out.whole (by omega) (by omega)
      have dj : decide ((j : Int) < j) = false := by simp
      clear hR
      go_wp2_with fail
      refine hwh.mono ?_
      rintro e4 w4 ⟨rfl, hR4⟩
      have hb4 := hR4.1
      clear hR4 hwh
      go_wp2
      go_ret
      exact ⟨rfl, hb4⟩

theorem walk (s : ByteArray) (most : Int) (a : Option Addr) (n c : Nat) (ls : List ActD) (w : World) (hs : s.size ≤ 140737488355328) (hm : (Lit.int .i64 most).wf = true) (hscr : Script w a n c ls) :
    Calls Try.prog 3 #[.string s, .int .i64 most, .slice a n c] w fun e w' => e = .returned (.bool true) ∧ Below w.heap.size w w' := by
  by_cases h : 200 < s.size ∨ 40 < n
  · exact long s most a n c w hs (by have h1 := hscr.1; have h2 := hscr.2.1; unfold maxLen at h2; omega) h
  · have h1 := Int.tmod_lt_of_pos most (b := 400) (by omega)
    have h2 := Int.lt_tmod_of_pos most (b := 400) (by omega)
    by_cases hb : most.tmod 400 < s.size
    · exact full s most a n c w (by omega) (by omega) hb (by omega)
    · exact short s most a n c ls w hscr (by omega) (by omega) (by omega) h1
end Go.Proofs.Ytiknnepmbkohiaa.PPl
