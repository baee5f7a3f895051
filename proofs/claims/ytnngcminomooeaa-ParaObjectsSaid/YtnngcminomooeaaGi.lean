/-
  Package para: the beginnings of sentences, one by one.
-/
import Derived.Test.YtnngcminomooeaaGa
import Derived.Test.YtnngcminomooeaaZz
set_option linter.unusedVariables false
set_option linter.unusedSimpArgs false
set_option maxRecDepth 100000
namespace Go.Proofs.Ytnngcminomooeaa.Pa
open Go Go.RowKit Go.Proofs.Ytnngcminomooeaa.Vk Go.Proofs.Ytnngcminomooeaa.Str Go.Proofs.Ytnngcminomooeaa.Ln Go.Proofs.Ytnngcminomooeaa.Cl Go.Proofs.Ytnngcminomooeaa.Mv Go.Proofs.Ytnngcminomooeaa.Wd Go.Shelf
attribute [local go_sem] Oper.semAt_some

set_option maxHeartbeats 8000000 in
theorem sentences_iter {a : Option Addr} {n c : Nat} {ls : List ByteArray} (S : Nat → Prop) (w : World) (bl : Nat) (h : Ss w a n c ls) (hs : ∀ s ∈ ls, s.size ≤ 140737488355328)
    (h0 : w.cell? ⟨bl, 0, none⟩ = some (.slice a n c)) (hSb : ¬ S bl) (hSl : 0 < n → ∀ k, blk (.slice a n c) = some k → ¬ S k) :
    Iter Try.prog 48 #[.pointer (some ⟨bl, 0, none⟩)] encp 0 (Fr S) (sen ls) w := fun l J Jx W hW hJ hJx hY hj0 => by
  have hn := h.le63
  have hlen := h.length
  have d0 := cell_later hW h0
  have HY := Lib.hid hY
  unfold sen at hY HY
  rw [hlen] at HY
  have HJ0 := Lib.hid hj0
  have H0 := Lib.hid h0
  unfold sen
  rw [hlen]
  clear hY hj0 h0
  refine callsIn_of_wp Try.func48 rfl trivial ?_ rfl
  simp only [Try.ntmps48, List.size_toArray, List.length_cons, List.length_nil, Nat.reduceAdd, Nat.reduceSub, Array.replicate_succ, Array.replicate_zero, List.push_toArray, List.append_toArray, List.nil_append, List.cons_append]
  gi_wp2
  clear d0
  gi_loopw [9] (fun i wr => ∃ j : Nat, j ≤ n ∧ i = .int .i64 j ∧ Hid (J (sns ls j) wr ∧ W.heap.size ≤ wr.heap.size ∧ Fr S W wr)) (fun i _ => n - (RowKit.intOf i).toNat)
  case atStart => exact ⟨0, Nat.zero_le _, rfl, HJ0.out, Nat.le_refl _, Fr.refl _ _⟩
  case round =>
    obtain ⟨j, hjn, rfl, hR⟩ := hrel
    by_cases hkn : j < n
    · have ho := opens_any a n c ls j wr (SrcV.fr (SrcV.below h hW) hR.out.2.2 hSl) hs hkn
      obtain ⟨b, o, rfl, hcx, hnc, _⟩ := h.read j (by omega)
      have hlt := lineAt_get (ls := ls) (k := j) (by omega)
      have hstz := hs (ls[j]'(by omega)) (List.getElem_mem (by omega))
      have c3 := Fr.cell hR.out.2.2 (cell_later hW hcx) (hSl (by omega) b rfl)
      have c1 := Fr.cell hR.out.2.2 (cell_later hW H0.out) hSb
      rw [← hlt] at c3 hstz
      obtain ⟨st, hst⟩ : ∃ st, st = lineAt ls j := ⟨_, rfl⟩
      rw [← hst] at c3 hstz
      obtain ⟨d, hd⟩ : ∃ d, d = op ls j := ⟨_, rfl⟩
      rw [← hd] at ho
      have HST := Lib.hid hst
      have HOP := Lib.hid hd
      have HH := Lib.hid h
      clear hcx hlt hst h hd hSl
      by_cases hz : st.size = 0
      · have he := empty_of_zero hz
        have HZ := Lib.hid hz
        cases d
        · have HI : Hid (J (sns ls j ++ lpt false (sb false) j st 0) wr ∧ W.heap.size ≤ wr.heap.size ∧ Fr S W wr) := by rw [lpt_none, List.append_nil]; exact hR
          clear hz hR
          gi_wp2_with fail
          refine ⟨trivial, ?_⟩
          refine (callsIn_wide.2 ho).mono ?_
          rintro e w' ⟨rfl, rfl⟩
          clear ho c1
          gi_wp2_with (with_reducible refine And.intro (fun _ hh => by cases hh) ?_)
          clear he c3
          gi_loopw [5, 31] (fun v u wq => ∃ q : Nat, q ≤ st.size ∧ v = .bool (due st false q) ∧ u = .int .i64 q ∧ Hid (J (sns ls j ++ lpt false (sb false) j st q) wq ∧ W.heap.size ≤ wq.heap.size ∧ Fr S W wq)) (fun v u _ => st.size - (RowKit.intOf u).toNat)
          case atStart => exact ⟨0, Nat.zero_le _, rfl, rfl, HI⟩
          case round =>
            obtain ⟨q, hqn, rfl, rfl, hQ⟩ := hrel
            by_cases hks : q < st.size
            · have hof := fun W => of_any ((st[q]'hks).toNat) true W
              rw [kl_at] at hof
              have hst := fun W => stops_any st q W hks hstz
              by_cases h0 : kl st true q = 0
              · have HN := Lib.hid (And.intro (lpt_no (e := false) (i := j) (sb_blank (d := false) h0)) (due_skip (d := false) h0))
                rw [h0] at hof
                clear h0 hst
                obtain ⟨D, hD⟩ : ∃ D, D = due st false q := ⟨_, rfl⟩
                rw [← hD]
                have HD := Lib.hid hD
                clear hD
                gi_wp2_with fail
                refine ⟨trivial, ?_⟩
                refine (callsIn_wide.2 (hof _)).mono ?_
                rintro e w' ⟨rfl, rfl⟩
                clear hof
                gi_wp2
                go_roundw
                case rel => exact ⟨q + 1, by omega, by rw [HN.out.2, HD.out], by go_num, by rw [HN.out.1]; exact hQ⟩
                case measure => simp [RowKit.intOf]; omega
              · have a0 : (kl st true q == 0) = false := by rw [beq_eq_false_iff_ne]; exact h0
                have hds := due_set (d := false) h0
                cases hdu : due st false q
                · have HN := Lib.hid (And.intro (lpt_no (e := false) (i := j) ((sb_due h0).trans hdu)) hds)
                  clear h0 hds hdu
                  generalize kl st true q = A at *
                  gi_wp2_with fail
                  refine ⟨trivial, ?_⟩
                  refine (callsIn_wide.2 (hof _)).mono ?_
                  rintro e w' ⟨rfl, rfl⟩
                  clear hof
                  gi_wp2_with (with_reducible refine And.intro (fun _ hh => by cases hh) ?_)
                  refine ⟨trivial, ?_⟩
                  refine (callsIn_wide.2 (hst _)).mono ?_
                  rintro e w' ⟨rfl, rfl⟩
                  clear hst
                  gi_wp2
                  go_roundw
                  case rel => exact ⟨q + 1, by omega, by rw [HN.out.2], by go_num, by rw [HN.out.1]; exact hQ⟩
                  case measure => simp [RowKit.intOf]; omega
                · have hyes : sb false st q = true := (sb_due h0).trans hdu
                  obtain ⟨r, hr⟩ := sns_at (n := n) hkn HST.out HOP.out hks hyes
                  obtain ⟨fn, tmps, assign, body, hy, hRd⟩ := HY.out _ (j, q) wr ⟨r, hr⟩ (by have := hQ.out.2.1; omega) hQ.out.1
                  have HN := Lib.hid (And.intro (lpt_yes (e := false) (i := j) hyes) hds)
                  have HRD := Lib.hid hRd
                  have HRR := Lib.hid hr
                  have HQ := Lib.hid hQ
                  dsimp only [encp] at hy
                  clear hRd hr hyes hQ h0 hds hdu
                  generalize kl st true q = A at *
                  gi_wp2_with fail
                  refine ⟨trivial, ?_⟩
                  refine (callsIn_wide.2 (hof _)).mono ?_
                  rintro e w' ⟨rfl, rfl⟩
                  clear hof
                  gi_wp2
                  refine (roundIn_any HRD.out).mono ?_
                  rintro e W5 ⟨⟨hsz5, _⟩, (⟨rfl, hJ5, hk5⟩ | ⟨rfl, hJx5⟩)⟩
                  · have hHQ := HQ.out.out
                    have hz5 := hHQ.2.1
                    have H5 := Lib.hid hJ5
                    have HF5 := Lib.hid (hHQ.2.2.trans hk5)
                    clear hJ5 hk5 hHQ hy
                    gi_wp2_with fail
                    refine ⟨trivial, ?_⟩
                    refine (callsIn_wide.2 (hst _)).mono ?_
                    rintro e w' ⟨rfl, rfl⟩
                    clear hst
                    gi_wp2
                    go_roundw
                    case rel => exact ⟨q + 1, by omega, by rw [HN.out.2], by go_num, by rw [HN.out.1, ← List.append_assoc]; exact H5.out, by omega, HF5.out⟩
                    case measure => simp [RowKit.intOf]; omega
                  · have H5 := Lib.hid hJx5
                    clear hJx5 hy hst
                    gi_wp2
                    refine bodyPost_ret (results_none rfl _ _ _) rfl ?_
                    refine ⟨⟨_, rfl⟩, .inr ⟨_, ?_, ?_, H5.out⟩⟩
                    · exact ⟨r, by rw [HRR.out]; simp⟩
                    · simp
            · obtain rfl : q = st.size := by omega
              gi_wp2
              go_roundw
              case rel =>
                refine ⟨j + 1, by omega, by go_num, ?_⟩
                rw [sns_next HST.out HOP.out]
                exact hQ
              case measure => simp [RowKit.intOf]; omega
        · obtain ⟨hJ1, hsz1, hF1⟩ := hR.out
          obtain ⟨r, hr⟩ := sns_empty (n := n) hkn HST.out HOP.out hz
          obtain ⟨fn, tmps, assign, body, hy, hRd⟩ := HY.out (sns ls j) (j, 0) wr ⟨r, hr⟩ (by omega) hJ1
          have HRD := Lib.hid hRd
          have HRR := Lib.hid hr
          have HF := Lib.hid hF1
          dsimp only [encp] at hy
          rw [show ((0 : Nat) : Int) = 0 from rfl] at hy
          clear hRd hr hF1 hJ1 hR hz
          gi_wp2_with fail
          refine ⟨trivial, ?_⟩
          refine (callsIn_wide.2 ho).mono ?_
          rintro e w' ⟨rfl, rfl⟩
          clear ho c1
          gi_wp2
          refine (roundIn_any HRD.out).mono ?_
          rintro e W3 ⟨⟨hsz3, _⟩, (⟨rfl, hJ3, hk3⟩ | ⟨rfl, hJx3⟩)⟩
          · have HI : Hid (J (sns ls j ++ lpt true (sb true) j st 0) W3 ∧ W.heap.size ≤ W3.heap.size ∧ Fr S W W3) := ⟨by rw [lpt_empty HZ.out]; exact hJ3, by omega, HF.out.trans hk3⟩
            clear hJ3 hk3 he c3 hy
            gi_wp2
            gi_loopw [5, 31] (fun v u wq => ∃ q : Nat, q ≤ st.size ∧ v = .bool (due st true q) ∧ u = .int .i64 q ∧ Hid (J (sns ls j ++ lpt true (sb true) j st q) wq ∧ W.heap.size ≤ wq.heap.size ∧ Fr S W wq)) (fun v u _ => st.size - (RowKit.intOf u).toNat)
            case atStart => exact ⟨0, Nat.zero_le _, rfl, rfl, HI⟩
            case round =>
              obtain ⟨q, hqn, rfl, rfl, hQ⟩ := hrel
              by_cases hks : q < st.size
              · have hof := fun W => of_any ((st[q]'hks).toNat) true W
                rw [kl_at] at hof
                have hst := fun W => stops_any st q W hks hstz
                by_cases h0 : kl st true q = 0
                · have HN := Lib.hid (And.intro (lpt_no (e := true) (i := j) (sb_blank (d := true) h0)) (due_skip (d := true) h0))
                  rw [h0] at hof
                  clear h0 hst
                  obtain ⟨D, hD⟩ : ∃ D, D = due st true q := ⟨_, rfl⟩
                  rw [← hD]
                  have HD := Lib.hid hD
                  clear hD
                  gi_wp2_with fail
                  refine ⟨trivial, ?_⟩
                  refine (callsIn_wide.2 (hof _)).mono ?_
                  rintro e w' ⟨rfl, rfl⟩
                  clear hof
                  gi_wp2
                  go_roundw
                  case rel => exact ⟨q + 1, by omega, by rw [HN.out.2, HD.out], by go_num, by rw [HN.out.1]; exact hQ⟩
                  case measure => simp [RowKit.intOf]; omega
                · have a0 : (kl st true q == 0) = false := by rw [beq_eq_false_iff_ne]; exact h0
                  have hds := due_set (d := true) h0
                  cases hdu : due st true q
                  · have HN := Lib.hid (And.intro (lpt_no (e := true) (i := j) ((sb_due h0).trans hdu)) hds)
                    clear h0 hds hdu
                    generalize kl st true q = A at *
                    gi_wp2_with fail
                    refine ⟨trivial, ?_⟩
                    refine (callsIn_wide.2 (hof _)).mono ?_
                    rintro e w' ⟨rfl, rfl⟩
                    clear hof
                    gi_wp2_with (with_reducible refine And.intro (fun _ hh => by cases hh) ?_)
                    refine ⟨trivial, ?_⟩
                    refine (callsIn_wide.2 (hst _)).mono ?_
                    rintro e w' ⟨rfl, rfl⟩
                    clear hst
                    gi_wp2
                    go_roundw
                    case rel => exact ⟨q + 1, by omega, by rw [HN.out.2], by go_num, by rw [HN.out.1]; exact hQ⟩
                    case measure => simp [RowKit.intOf]; omega
                  · have hyes : sb true st q = true := (sb_due h0).trans hdu
                    obtain ⟨r, hr⟩ := sns_at (n := n) hkn HST.out HOP.out hks hyes
                    obtain ⟨fn, tmps, assign, body, hy, hRd⟩ := HY.out _ (j, q) wr ⟨r, hr⟩ (by have := hQ.out.2.1; omega) hQ.out.1
                    have HN := Lib.hid (And.intro (lpt_yes (e := true) (i := j) hyes) hds)
                    have HRD := Lib.hid hRd
                    have HRR := Lib.hid hr
                    have HQ := Lib.hid hQ
                    dsimp only [encp] at hy
                    clear hRd hr hyes hQ h0 hds hdu
                    generalize kl st true q = A at *
                    gi_wp2_with fail
                    refine ⟨trivial, ?_⟩
                    refine (callsIn_wide.2 (hof _)).mono ?_
                    rintro e w' ⟨rfl, rfl⟩
                    clear hof
                    gi_wp2
                    refine (roundIn_any HRD.out).mono ?_
                    rintro e W5 ⟨⟨hsz5, _⟩, (⟨rfl, hJ5, hk5⟩ | ⟨rfl, hJx5⟩)⟩
                    · have hHQ := HQ.out.out
                      have hz5 := hHQ.2.1
                      have H5 := Lib.hid hJ5
                      have HF5 := Lib.hid (hHQ.2.2.trans hk5)
                      clear hJ5 hk5 hHQ hy
                      gi_wp2_with fail
                      refine ⟨trivial, ?_⟩
                      refine (callsIn_wide.2 (hst _)).mono ?_
                      rintro e w' ⟨rfl, rfl⟩
                      clear hst
                      gi_wp2
                      go_roundw
                      case rel => exact ⟨q + 1, by omega, by rw [HN.out.2], by go_num, by rw [HN.out.1, ← List.append_assoc]; exact H5.out, by omega, HF5.out⟩
                      case measure => simp [RowKit.intOf]; omega
                    · have H5 := Lib.hid hJx5
                      clear hJx5 hy hst
                      gi_wp2
                      refine bodyPost_ret (results_none rfl _ _ _) rfl ?_
                      refine ⟨⟨_, rfl⟩, .inr ⟨_, ?_, ?_, H5.out⟩⟩
                      · exact ⟨r, by rw [HRR.out]; simp⟩
                      · simp
              · obtain rfl : q = st.size := by omega
                gi_wp2
                go_roundw
                case rel =>
                  refine ⟨j + 1, by omega, by go_num, ?_⟩
                  rw [sns_next HST.out HOP.out]
                  exact hQ
                case measure => simp [RowKit.intOf]; omega
          · have H3 := Lib.hid hJx3
            clear hJx3
            gi_wp2
            refine bodyPost_ret (results_none rfl _ _ _) rfl ?_
            refine ⟨⟨_, rfl⟩, .inr ⟨sns ls j ++ [(j, 0)], ?_, by simp, H3.out⟩⟩
            exact ⟨r, by rw [HRR.out]; simp⟩
      · have he := empty_of_pos (x := st) (by omega)
        have HI : Hid (J (sns ls j ++ lpt d (sb d) j st 0) wr ∧ W.heap.size ≤ wr.heap.size ∧ Fr S W wr) := by rw [lpt_zero (by omega), List.append_nil]; exact hR
        clear hz hR
        gi_wp2_with fail
        refine ⟨trivial, ?_⟩
        refine (callsIn_wide.2 ho).mono ?_
        rintro e w' ⟨rfl, rfl⟩
        clear ho c1
        gi_wp2_with (with_reducible refine And.intro (fun _ hh => by cases hh) ?_)
        clear he c3
        gi_loopw [5, 31] (fun v u wq => ∃ q : Nat, q ≤ st.size ∧ v = .bool (due st d q) ∧ u = .int .i64 q ∧ Hid (J (sns ls j ++ lpt d (sb d) j st q) wq ∧ W.heap.size ≤ wq.heap.size ∧ Fr S W wq)) (fun v u _ => st.size - (RowKit.intOf u).toNat)
        case atStart => exact ⟨0, Nat.zero_le _, rfl, rfl, HI⟩
        case round =>
          obtain ⟨q, hqn, rfl, rfl, hQ⟩ := hrel
          by_cases hks : q < st.size
          · have hof := fun W => of_any ((st[q]'hks).toNat) true W
            rw [kl_at] at hof
            have hst := fun W => stops_any st q W hks hstz
            by_cases h0 : kl st true q = 0
            · have HN := Lib.hid (And.intro (lpt_no (e := d) (i := j) (sb_blank (d := d) h0)) (due_skip (d := d) h0))
              rw [h0] at hof
              clear h0 hst
              obtain ⟨D, hD⟩ : ∃ D, D = due st d q := ⟨_, rfl⟩
              rw [← hD]
              have HD := Lib.hid hD
              clear hD
              gi_wp2_with fail
              refine ⟨trivial, ?_⟩
              refine (callsIn_wide.2 (hof _)).mono ?_
              rintro e w' ⟨rfl, rfl⟩
              clear hof
              gi_wp2
              go_roundw
              case rel => exact ⟨q + 1, by omega, by rw [HN.out.2, HD.out], by go_num, by rw [HN.out.1]; exact hQ⟩
              case measure => simp [RowKit.intOf]; omega
            · have a0 : (kl st true q == 0) = false := by rw [beq_eq_false_iff_ne]; exact h0
              have hds := due_set (d := d) h0
              cases hdu : due st d q
              · have HN := Lib.hid (And.intro (lpt_no (e := d) (i := j) ((sb_due h0).trans hdu)) hds)
                clear h0 hds hdu
                generalize kl st true q = A at *
                gi_wp2_with fail
                refine ⟨trivial, ?_⟩
                refine (callsIn_wide.2 (hof _)).mono ?_
                rintro e w' ⟨rfl, rfl⟩
                clear hof
                gi_wp2_with (with_reducible refine And.intro (fun _ hh => by cases hh) ?_)
                refine ⟨trivial, ?_⟩
                refine (callsIn_wide.2 (hst _)).mono ?_
                rintro e w' ⟨rfl, rfl⟩
                clear hst
                gi_wp2
                go_roundw
                case rel => exact ⟨q + 1, by omega, by rw [HN.out.2], by go_num, by rw [HN.out.1]; exact hQ⟩
                case measure => simp [RowKit.intOf]; omega
              · have hyes : sb d st q = true := (sb_due h0).trans hdu
                obtain ⟨r, hr⟩ := sns_at (n := n) hkn HST.out HOP.out hks hyes
                obtain ⟨fn, tmps, assign, body, hy, hRd⟩ := HY.out _ (j, q) wr ⟨r, hr⟩ (by have := hQ.out.2.1; omega) hQ.out.1
                have HN := Lib.hid (And.intro (lpt_yes (e := d) (i := j) hyes) hds)
                have HRD := Lib.hid hRd
                have HRR := Lib.hid hr
                have HQ := Lib.hid hQ
                dsimp only [encp] at hy
                clear hRd hr hyes hQ h0 hds hdu
                generalize kl st true q = A at *
                gi_wp2_with fail
                refine ⟨trivial, ?_⟩
                refine (callsIn_wide.2 (hof _)).mono ?_
                rintro e w' ⟨rfl, rfl⟩
                clear hof
                gi_wp2
                refine (roundIn_any HRD.out).mono ?_
                rintro e W5 ⟨⟨hsz5, _⟩, (⟨rfl, hJ5, hk5⟩ | ⟨rfl, hJx5⟩)⟩
                · have hHQ := HQ.out.out
                  have hz5 := hHQ.2.1
                  have H5 := Lib.hid hJ5
                  have HF5 := Lib.hid (hHQ.2.2.trans hk5)
                  clear hJ5 hk5 hHQ hy
                  gi_wp2_with fail
                  refine ⟨trivial, ?_⟩
                  refine (callsIn_wide.2 (hst _)).mono ?_
                  rintro e w' ⟨rfl, rfl⟩
                  clear hst
                  gi_wp2
                  go_roundw
                  case rel => exact ⟨q + 1, by omega, by rw [HN.out.2], by go_num, by rw [HN.out.1, ← List.append_assoc]; exact H5.out, by omega, HF5.out⟩
                  case measure => simp [RowKit.intOf]; omega
                · have H5 := Lib.hid hJx5
                  clear hJx5 hy hst
                  gi_wp2
                  refine bodyPost_ret (results_none rfl _ _ _) rfl ?_
                  refine ⟨⟨_, rfl⟩, .inr ⟨_, ?_, ?_, H5.out⟩⟩
                  · exact ⟨r, by rw [HRR.out]; simp⟩
                  · simp
          · obtain rfl : q = st.size := by omega
            gi_wp2
            go_roundw
            case rel =>
              refine ⟨j + 1, by omega, by go_num, ?_⟩
              rw [sns_next HST.out HOP.out]
              exact hQ
            case measure => simp [RowKit.intOf]; omega
    · obtain rfl : j = n := by omega
      gi_wp2
      go_end0
      exact ⟨⟨_, rfl⟩, .inl hR.out.1⟩

theorem sentences_new (a : Option Addr) (n c : Nat) (w : World) : Calls Try.prog 45 #[.slice a n c] w fun e w' =>
    e = .returned (.func (.func 48) #[] #[.pointer (some ⟨w.heap.size, 0, none⟩)]) ∧ w.alloc (.cells #[.slice a n c] 22) = w' := by
  go_enter Try.func45, Try.ntmps45
  go_wp2
  go_ret
  exact ⟨rfl, rfl⟩
theorem sentences_tells (a : Option Addr) (n c : Nat) (ls : List ByteArray) (w : World) (h : Ss w a n c ls) (hs : ∀ s ∈ ls, s.size ≤ 140737488355328) : Calls Try.prog 45 #[.slice a n c] w fun e w' =>
    ∃ v, e = .returned v ∧ Tells w' v 0 (sen ls) ∧ Below w.heap.size w w' := by
  refine (sentences_new a n c w).mono ?_
  rintro e w' ⟨rfl, rfl⟩
  have hb : Below w.heap.size w (w.alloc (.cells #[.slice a n c] 22)) := (Below.refl _ w).alloc (Nat.le_refl _) _
  refine ⟨_, rfl, ⟨_, _, rfl, enters_of Try.func48 (by kernel_rfl) rfl, ?_⟩, hb⟩
  refine sentences_iter _ _ _ (SrcV.below h hb) hs ?_ (by simp) ?_
  · exact (cell_of_row _ _ 0 _ _ _ (heap_alloc_new w _)).trans (by simp)
  · intro h0 k hk hh
    have := SrcV.blkLt h (by omega) k hk
    simp at hh
    omega
/-- .. where the block M, the caller's own, may be written between. -/
theorem sentences_keep (a : Option Addr) (n c : Nat) (ls : List ByteArray) (M : Nat) (w : World) (h : Ss w a n c ls) (hs : ∀ s ∈ ls, s.size ≤ 140737488355328) (hM : M < w.heap.size) (hMl : 0 < n → ∀ k, blk (.slice a n c) = some k → k ≠ M) : Calls Try.prog 45 #[.slice a n c] w fun e w' =>
    ∃ g lb, e = .returned (.func (.func g) #[] lb) ∧ (∀ args w', (callFunc g args).run Try.prog w' = .ok (.enter g args) w') ∧ Iter Try.prog g lb encp 0 (Fr (fun k => k = M ∨ w'.heap.size ≤ k)) (sen ls) w' ∧ Below w.heap.size w w' := by
  refine (sentences_new a n c w).mono ?_
  rintro e w' ⟨rfl, rfl⟩
  have hb : Below w.heap.size w (w.alloc (.cells #[.slice a n c] 22)) := (Below.refl _ w).alloc (Nat.le_refl _) _
  refine ⟨_, _, rfl, enters_of Try.func48 (by kernel_rfl) rfl, ?_, hb⟩
  refine sentences_iter _ _ _ (SrcV.below h hb) hs ?_ ?_ ?_
  · exact (cell_of_row _ _ 0 _ _ _ (heap_alloc_new w _)).trans (by simp)
  · intro hh
    simp at hh
    omega
  · intro h0 k hk hh
    have h1 := SrcV.blkLt h (by omega) k hk
    have h2 := hMl h0 k hk
    simp at hh
    omega


end Go.Proofs.Ytnngcminomooeaa.Pa
