/-
  The law IndexPlays, walked.
-/
import Derived.Test.YtndfbjpgbpcimaaLActs
import Derived.LoopTactic
set_option linter.unusedVariables false
namespace Go.Proofs.Ytndfbjpgbpcimaa.LPl
open Go Go.RowKit Go.Proofs.Ytndfbjpgbpcimaa.Vk Go.Proofs.Ytndfbjpgbpcimaa.Lm Go.Proofs.Ytndfbjpgbpcimaa.Lx Go.Proofs.Ytndfbjpgbpcimaa.Str Go.Proofs.Ytndfbjpgbpcimaa.LActs Go.Shelf
attribute [local go_sem] Oper.semAt_some

set_option maxRecDepth 100000 in
theorem long (s : ByteArray) (a : Option Addr) (n c : Nat) (w : World) (hs : s.size ≤ 140737488355328) (hn : n ≤ 9223372036854775807) (h : 150 < s.size ∨ 30 < n) :
    Calls Try.prog 3 #[.string s, .slice a n c] w fun e w' => e = .returned (.bool true) ∧ Below w.heap.size w w' := by
  by_cases h1 : 150 < s.size
  · have hd : decide (150 < (s.size : Int)) = true := decide_eq_true (by omega)
    clear h
    go_enter Try.func3, Try.ntmps3
    go_wp2_with (go_at_call 8; refine (known_any _).mono ?_; rintro e w1 ⟨rfl, hb⟩)
    go_ret
    exact ⟨rfl, hb⟩
  · have hd : decide (150 < (s.size : Int)) = false := decide_eq_false (by omega)
    have h2 : 30 < n := by omega
    have hd2 : decide (30 < (n : Int)) = true := decide_eq_true (by omega)
    clear h
    go_enter Try.func3, Try.ntmps3
    go_wp2_with (go_at_call 8; refine (known_any _).mono ?_; rintro e w1 ⟨rfl, hb⟩)
    go_ret
    exact ⟨rfl, hb⟩

set_option maxHeartbeats 8000000 in
set_option maxRecDepth 100000 in
theorem short (s0 : ByteArray) (a : Option Addr) (n c : Nat) (ls : List ActD) (w : World) (hscr : Script w a n c ls) (hs : s0.size ≤ 150) (hn : n ≤ 30) :
    Calls Try.prog 3 #[.string s0, .slice a n c] w fun e w' => e = .returned (.bool true) ∧ Below w.heap.size w w' := by
  have hd : decide (150 < (s0.size : Int)) = false := decide_eq_false (by omega)
  have hd2 : decide (30 < (n : Int)) = false := decide_eq_false (by omega)
  go_enter Try.func3, Try.ntmps3
  go_wp2_with (go_at_call 8; refine (known_any _).mono ?_; rintro e w1 ⟨rfl, hb1⟩)
  refine (new_any s0 w1 (by omega)).mono ?_
  rintro e w2 ⟨p, F, rfl, hi, hb2⟩
  have hR0 : IRel w p s0.data.toList w2 := ⟨hb1.trans (hb2.mono hb1.size), F, hi.mono hb1.size⟩
  have hwh := hR0.whole s0 (by omega)
  clear hi hb1 hb2 hR0
  go_wp2_with fail
  refine hwh.mono ?_
  rintro e w3 ⟨rfl, hR3⟩
  have HR0 := Lib.hid hR3
  clear hwh hR3
  go_wp2_with fail
  go_loopw [6, 7] (fun u6 u7 wr => ∃ (j : Nat) (s : ByteArray), j ≤ n ∧ u7 = .int .i64 j ∧ u6 = .string s ∧ s.size ≤ 150 + 30 * j ∧ Hid (IRel w p s.data.toList wr)) (fun _ u7 _ => n - (RowKit.intOf u7).toNat)
  case atStart => exact ⟨0, s0, Nat.zero_le _, rfl, rfl, hs, HR0⟩
  case round =>
    obtain ⟨j, s, hj, rfl, rfl, hsz, hR⟩ := hrel
    have hsl := size_str s
    by_cases hjn : j < n
    · obtain ⟨hmc, hcm, hll, hel⟩ := hscr
      have hkl : j < ls.length := by omega
      obtain ⟨hfit, sb, so, rfl, hcs⟩ := hel j _ (List.getElem?_eq_getElem hkl)
      generalize ls[j] = a at hfit hcs
      obtain ⟨what, off, num, x⟩ := a
      obtain ⟨hb, F', ht⟩ := hR.out
      have hF := Fr.ofBelow hb (fun _ => False)
      have f0 : wr.cell? ⟨sb, so + j * 4, none⟩ = some (.int .u8 what) := hF.cell (hcs 0 _ rfl) (by simp)
      have f1 : wr.cell? ⟨sb, so + j * 4 + 1, none⟩ = some (.int .i64 off) := hF.cell (hcs 1 _ rfl) (by simp)
      have f2 : wr.cell? ⟨sb, so + j * 4 + 2, none⟩ = some (.int .i64 num) := hF.cell (hcs 2 _ rfl) (by simp)
      have f3 : wr.cell? ⟨sb, so + j * 4 + 3, none⟩ = some (.string x) := hF.cell (hcs 3 _ rfl) (by simp)
      have hwhat : 0 ≤ what ∧ what ≤ 255 := by have := hfit.1; simpa [Lit.wf, IntKind.min, IntKind.max, IntKind.signed, IntKind.bits] using this
      have hoff : -9223372036854775808 ≤ off ∧ off ≤ 9223372036854775807 := by have := hfit.2.1; simpa [Lit.wf, IntKind.min, IntKind.max, IntKind.signed, IntKind.bits] using this
      have hnum : -9223372036854775808 ≤ num ∧ num ≤ 9223372036854775807 := by have := hfit.2.2.1; simpa [Lit.wf, IntKind.min, IntKind.max, IntKind.signed, IntKind.bits] using this
      obtain ⟨hwh0, hwh1⟩ := hwhat
      obtain ⟨ho0, ho1⟩ := hoff
      obtain ⟨hnu0, hnu1⟩ := hnum
      have hk0 : (0 : Int) ≤ (j : Int) := by omega
      have hk1 : (j : Int) < (n : Int) := by omega
      have HSIZ := hb.size
      clear hfit hel hcs hF
      by_cases h60 : 30 < x.size
      · have d60 : decide (30 < (x.size : Int)) = true := decide_eq_true (by omega)
        have HB := Lib.hid hb
        clear hb ht hR
        go_wp2_with fail
        go_ret
        exact ⟨rfl, HB.out.alloc HSIZ _⟩
      · have hnB : ¬ F' wr.heap.size := fun h => by have := (ht.footLt _ h).2; omega
        obtain ⟨w0, hw0⟩ : ∃ w0, w0 = wr.alloc (.cells #[.int .u8 what, .int .i64 off, .int .i64 num, .string x] 28) := ⟨_, rfl⟩
        have hrow0 : w0.heap[wr.heap.size]? = some (.cells #[.int .u8 what, .int .i64 off, .int .i64 num, .string x] 28 (0, 0)) := by rw [hw0]; exact heap_alloc_new wr _
        have e0 : w0.cell? ⟨wr.heap.size, 0, none⟩ = some (.int .u8 what) := by rw [cell_of_row _ _ _ _ _ _ hrow0]; rfl
        have e1 : w0.cell? ⟨wr.heap.size, 1, none⟩ = some (.int .i64 off) := by rw [cell_of_row _ _ _ _ _ _ hrow0]; rfl
        have e2 : w0.cell? ⟨wr.heap.size, 2, none⟩ = some (.int .i64 num) := by rw [cell_of_row _ _ _ _ _ _ hrow0]; rfl
        have e3 : w0.cell? ⟨wr.heap.size, 3, none⟩ = some (.string x) := by rw [cell_of_row _ _ _ _ _ _ hrow0]; rfl
        have hb0 : Below w.heap.size w w0 := by rw [hw0]; exact hb.alloc HSIZ _
        have ht0 : Idx w0 w.heap.size p F' s.data.toList := by rw [hw0]; exact ht.fr ((Fr.refl (fun _ => False) wr).alloc _) (by simp)
        have HT0 := Lib.hid (And.intro hb0 ht0)
        clear hrow0 hb ht hb0 ht0 hR
        have hw_j : IntKind.i64.wrap ((j : Int) + 1) = (j : Int) + 1 := by rw [IntKind.wrap_i64]; omega
        have dj : decide ((j : Int) < n) = true := decide_eq_true (by omega)
        have d60 : decide (30 < (x.size : Int)) = false := decide_eq_false (by omega)
        by_cases hq : what % 3 < 2
        · by_cases hin : 0 ≤ off ∧ off ≤ s.size
          · obtain ⟨q, rfl⟩ : ∃ q : Nat, off = q := ⟨off.toNat, by omega⟩
            obtain ⟨hq0, hq1⟩ := hin
            have hins := insert_yes HT0.out.2 q x (by omega) (by omega)
            as_aux_lemma =>
              go_wp2_with fail
              rw [← hw0]
              refine hins.mono ?_
              rintro e5 w3 ⟨rfl, hc3⟩
              have c1 := changed_cell hc3 hnB e1
              have c3 := changed_cell hc3 hnB e3
              have hR3 := IRel.change HT0.out.1 HT0.out.2 hc3
              have hqs : q ≤ s.size := by omega
              clear hins hw0 f0 f1 f2 f3 e0 e1 e2 e3 hc3
              go_wp2_with fail
              go_quiet (fail)
              obtain ⟨u, hu⟩ : ∃ u, u = s.extract 0 q ++ x ++ s.extract q s.size := ⟨_, rfl⟩
              have hul : u.data.toList = s.data.toList.take q ++ x.data.toList ++ s.data.toList.drop q := by rw [hu, put_list]
              have hus : u.size = s.size + x.size := by rw [hu, put_size s x q hqs]
              rw [← hu]
              rw [← hul] at hR3
              have HR3 := Lib.hid (hR3.drewN nq)
              clear hR3 hu hul
              have hwh := HR3.out.whole u (by omega)
              go_wp2_with fail
              refine hwh.mono ?_
              rintro e4 w4 ⟨rfl, hR4⟩
              have HR4 := Lib.hid hR4
              clear hR4 hwh
              go_wp2
              go_roundw
              case rel => exact ⟨j + 1, u, by omega, by go_num, rfl, by omega, HR4⟩
              case measure => simp [RowKit.intOf]; omega
          · have hins := insert_no HT0.out.2 off x (by rw [hsl]; exact hin) (by omega)
            have HR3 : Hid (IRel w p s.data.toList w0) := Lib.hid ⟨HT0.out.1, F', HT0.out.2⟩
            rcases (show off < 0 ∨ (¬ off < 0 ∧ (s.size : Int) < off) by omega) with hn | ⟨hn, hn2⟩
            all_goals
              clear hin
              as_aux_lemma =>
                go_wp2_with fail
                rw [← hw0]
                refine hins.mono ?_
                rintro e5 w3 ⟨rfl, rfl⟩
                clear hins hw0 f0 f1 f2 f3 e0
                have hwh := HR3.out.whole s (by omega)
                go_wp2_with fail
                refine hwh.mono ?_
                rintro e4 w4 ⟨rfl, hR4⟩
                have HR4 := Lib.hid hR4
                clear hR4 hwh
                go_wp2
                go_roundw
                case rel => exact ⟨j + 1, s, by omega, by go_num, rfl, by omega, HR4⟩
                case measure => simp [RowKit.intOf]; omega
        · by_cases hin : 0 ≤ off ∧ 0 ≤ num ∧ off ≤ s.size ∧ num ≤ s.size - off
          · obtain ⟨h1, h2, h3, h4⟩ := hin
            obtain ⟨k, rfl⟩ : ∃ k : Nat, off = k := ⟨off.toNat, by omega⟩
            obtain ⟨q, rfl⟩ : ∃ q : Nat, num = q := ⟨num.toNat, by omega⟩
            have hdel := delete_yes HT0.out.2 k q (by omega) (by omega)
            have hw_d : IntKind.i64.wrap ((s.size : Int) - k) = (s.size : Int) - k := by rw [IntKind.wrap_i64]; omega
            as_aux_lemma =>
              go_wp2_with fail
              rw [← hw0]
              refine hdel.mono ?_
              rintro e5 w3 ⟨rfl, hc3⟩
              have c1 := changed_cell hc3 hnB e1
              have c2 := changed_cell hc3 hnB e2
              have hR3 := IRel.change HT0.out.1 HT0.out.2 hc3
              have hpq : (k : Int) + q ≤ s.size := by omega
              have hpq0 : (0 : Int) ≤ (k : Int) + q := by omega
              have hpqn : ((k : Int) + q).toNat = k + q := by omega
              have hw_6 : IntKind.i64.wrap ((k : Int) + q) = (k : Int) + q := by rw [IntKind.wrap_i64]; omega
              clear hdel hw0 f0 f1 f2 f3 e0 e1 e2 e3 hc3
              go_wp2_with fail
              go_quiet (fail)
              obtain ⟨u, hu⟩ : ∃ u, u = s.extract 0 k ++ s.extract (k + q) s.size := ⟨_, rfl⟩
              have hul : u.data.toList = s.data.toList.take k ++ s.data.toList.drop (k + q) := by rw [hu, Str.cut_list]
              have hus : u.size ≤ s.size := by rw [← size_str u, hul]; simp; omega
              rw [← hu]
              rw [← hul] at hR3
              have HR3 := Lib.hid (hR3.drewN nq)
              clear hR3 hu hul
              have hwh := HR3.out.whole u (by omega)
              go_wp2_with fail
              refine hwh.mono ?_
              rintro e4 w4 ⟨rfl, hR4⟩
              have HR4 := Lib.hid hR4
              clear hR4 hwh
              go_wp2
              go_roundw
              case rel => exact ⟨j + 1, u, by omega, by go_num, rfl, by omega, HR4⟩
              case measure => simp [RowKit.intOf]; omega
          · have hdel := delete_no HT0.out.2 off num (by rw [hsl]; exact hin) (by omega)
            have HR3 : Hid (IRel w p s.data.toList w0) := Lib.hid ⟨HT0.out.1, F', HT0.out.2⟩
            have hcs : off < 0 ∨ (¬ off < 0 ∧ num < 0) ∨ (¬ off < 0 ∧ ¬ num < 0 ∧ (s.size : Int) < off) ∨ (¬ off < 0 ∧ ¬ num < 0 ∧ ¬ (s.size : Int) < off ∧ (s.size : Int) - off < num) := by omega
            clear hin
            rcases hcs with a1 | ⟨a1, a2⟩ | ⟨a1, a2, a3⟩ | ⟨a1, a2, a3, a4⟩
            rotate_left 3
            · have hw_d : IntKind.i64.wrap ((s.size : Int) - off) = (s.size : Int) - off := by rw [IntKind.wrap_i64]; omega
              as_aux_lemma =>
                go_wp2_with fail
                rw [← hw0]
                refine hdel.mono ?_
                rintro e5 w3 ⟨rfl, rfl⟩
                clear hdel hw0 f0 f1 f2 f3 e0
                have hwh := HR3.out.whole s (by omega)
                go_wp2_with fail
                refine hwh.mono ?_
                rintro e4 w4 ⟨rfl, hR4⟩
                have HR4 := Lib.hid hR4
                clear hR4 hwh
                go_wp2
                go_roundw
                case rel => exact ⟨j + 1, s, by omega, by go_num, rfl, by omega, HR4⟩
                case measure => simp [RowKit.intOf]; omega
            all_goals
              as_aux_lemma =>
                go_wp2_with fail
                rw [← hw0]
                refine hdel.mono ?_
                rintro e5 w3 ⟨rfl, rfl⟩
                clear hdel hw0 f0 f1 f2 f3 e0
                have hwh := HR3.out.whole s (by omega)
                go_wp2_with fail
                refine hwh.mono ?_
                rintro e4 w4 ⟨rfl, hR4⟩
                have HR4 := Lib.hid hR4
                clear hR4 hwh
                go_wp2
                go_roundw
                case rel => exact ⟨j + 1, s, by omega, by go_num, rfl, by omega, HR4⟩
                case measure => simp [RowKit.intOf]; omega
    · obtain rfl : j = n := by omega
      have dj : decide ((j : Int) < j) = false := by simp
      have HB := Lib.hid hR.out.1
      clear hR
      go_wp2
      go_ret
      exact ⟨rfl, HB.out⟩

theorem walk (s : ByteArray) (a : Option Addr) (n c : Nat) (ls : List ActD) (w : World) (hs : s.size ≤ 140737488355328) (hscr : Script w a n c ls) :
    Calls Try.prog 3 #[.string s, .slice a n c] w fun e w' => e = .returned (.bool true) ∧ Below w.heap.size w w' := by
  by_cases h : 150 < s.size ∨ 30 < n
  · exact long s a n c w hs (by have h1 := hscr.1; have h2 := hscr.2.1; unfold maxLen at h2; omega) h
  · exact short s a n c ls w hscr (by omega) (by omega)
end Go.Proofs.Ytndfbjpgbpcimaa.LPl
