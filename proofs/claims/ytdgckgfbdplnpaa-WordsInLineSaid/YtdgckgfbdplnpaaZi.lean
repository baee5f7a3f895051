/-
  Package words: the places at which words begin and end, one by one (starts, ends).
-/
import Derived.Test.YtdgckgfbdplnpaaZb
import Derived.Test.YtdgckgfbdplnpaaRnd
set_option linter.unusedVariables false
set_option linter.unusedSimpArgs false
set_option maxRecDepth 100000
namespace Go.Proofs.Ytdgckgfbdplnpaa.Wd
open Go Go.RowKit Go.Proofs.Ytdgckgfbdplnpaa.Vk Go.Proofs.Ytdgckgfbdplnpaa.Str Go.Proofs.Ytdgckgfbdplnpaa.Ln Go.Proofs.Ytdgckgfbdplnpaa.Cl Go.Proofs.Ytdgckgfbdplnpaa.Mv Go.Shelf
attribute [local go_sem] Oper.semAt_some

def encp (x : P2) : Array Value := #[.agg #[.int .i64 x.1, .int .i64 x.2]]
/-- What a round may change: what is new. -/
abbrev Kn (w : World) (W W' : World) : Prop := Fr (fun k => w.heap.size ≤ k) W W'
theorem Kn.cell {w W V : World} {p : Addr} {v : Value} (hW : Below w.heap.size w W) (hF : Kn w W V) (hv : w.cell? p = some v) : V.cell? p = some v :=
  Fr.cell hF (cell_later hW hv) (fun e => by have : p.block < w.heap.size := World.block_lt_of_cell? w _ hv; have e' : w.heap.size ≤ p.block := e; omega)
theorem Kn.below {w W V : World} (hW : Below w.heap.size w W) (hF : Kn w W V) : Below w.heap.size w V :=
  hW.trans (Fr.below hF hW.size (fun k hk => hk))

set_option maxHeartbeats 4000000 in
theorem starts_iter {a : Option Addr} {n c : Nat} {ls : List ByteArray} (w : World) (bl bb : Nat) (big : Bool) (h : Ss w a n c ls) (hs : ∀ s ∈ ls, s.size ≤ 140737488355328)
    (h0 : w.cell? ⟨bl, 0, none⟩ = some (.slice a n c)) (h1 : w.cell? ⟨bb, 0, none⟩ = some (.bool big)) :
    Iter Try.prog 47 #[.pointer (some ⟨bl, 0, none⟩), .pointer (some ⟨bb, 0, none⟩)] encp 0 (Kn w) (sts big ls) w := fun l J Jx W hW hJ hJx hY hj0 => by
  have hn := h.le63
  have hlen := h.length
  have d0 := Kn.cell hW (Fr.refl _ W) h0
  have HY := Lib.hid hY
  unfold sts at hY HY
  rw [hlen] at HY
  have HJ0 := Lib.hid hj0
  have H0 := Lib.hid (And.intro h0 h1)
  unfold sts
  rw [hlen]
  clear hY hj0 h0 h1
  refine callsIn_of_wp Try.func47 rfl trivial ?_ rfl
  simp only [Try.ntmps47, List.size_toArray, List.length_cons, List.length_nil, Nat.reduceAdd, Nat.reduceSub, Array.replicate_succ, Array.replicate_zero, List.push_toArray, List.append_toArray, List.nil_append, List.cons_append]
  gi_wp2
  clear d0
  gi_loopw [9] (fun i wr => ∃ j : Nat, j ≤ n ∧ i = .int .i64 j ∧ Hid (J (mks true (beg big) ls j) wr ∧ W.heap.size ≤ wr.heap.size ∧ Kn w W wr)) (fun i _ => n - (RowKit.intOf i).toNat)
  case atStart => exact ⟨0, Nat.zero_le _, rfl, HJ0.out, Nat.le_refl _, Fr.refl _ _⟩
  case round =>
    obtain ⟨j, hjn, rfl, hR⟩ := hrel
    by_cases hkn : j < n
    · obtain ⟨b, o, rfl, hcx, hnc, _⟩ := h.read j (by omega)
      have hlt := lineAt_get (ls := ls) (k := j) (by omega)
      have hstz := hs (ls[j]'(by omega)) (List.getElem_mem (by omega))
      have c3 := Kn.cell hW hR.out.2.2 hcx
      rw [← hlt] at c3 hstz
      obtain ⟨st, hst⟩ : ∃ st, st = lineAt ls j := ⟨_, rfl⟩
      rw [← hst] at c3 hstz
      have HST := Lib.hid hst
      have HH := Lib.hid h
      clear hcx hlt hst h
      by_cases hz : st.size = 0
      · obtain ⟨hJ1, hsz1, hF1⟩ := hR.out
        obtain ⟨r, hr⟩ := mks_empty (pr := beg big) (n := n) hkn HST.out hz
        obtain ⟨fn, tmps, assign, body, hy, hRd⟩ := HY.out (mks true (beg big) ls j) (j, 0) wr ⟨r, hr⟩ (by omega) hJ1
        have HRD := Lib.hid hRd
        have HRR := Lib.hid hr
        have HF := Lib.hid hF1
        have he := empty_of_zero hz
        have HZ := Lib.hid hz
        dsimp only [encp] at hy
        rw [show ((0 : Nat) : Int) = 0 from rfl] at hy
        clear hRd hr hF1 hJ1 hR hz
        gi_wp2
        refine (roundIn_any HRD.out).mono ?_
        rintro e W3 ⟨⟨hsz3, _⟩, (⟨rfl, hJ3, hk3⟩ | ⟨rfl, hJx3⟩)⟩
        · have HI : Hid (J (mks true (beg big) ls j ++ lpt true (beg big) j st 0) W3 ∧ W.heap.size ≤ W3.heap.size ∧ Kn w W W3) := ⟨by rw [lpt_empty HZ.out]; exact hJ3, by omega, HF.out.trans hk3⟩
          clear hJ3 hk3 he c3 hy
          gi_wp2
          gi_loopw [25] (fun u wq => ∃ q : Nat, q ≤ st.size ∧ u = .int .i64 q ∧ Hid (J (mks true (beg big) ls j ++ lpt true (beg big) j st q) wq ∧ W.heap.size ≤ wq.heap.size ∧ Kn w W wq)) (fun u _ => st.size - (RowKit.intOf u).toNat)
          case atStart => exact ⟨0, Nat.zero_le _, rfl, HI⟩
          case round =>
            obtain ⟨q, hqn, rfl, hQ⟩ := hrel
            by_cases hks : q < st.size
            · have c1 := Kn.cell hW hQ.out.2.2 H0.out.2
              have hb := begins_any st q big wr hks (by omega)
              cases hbq : beg big st q
              · rw [hbq] at hb
                have HN := Lib.hid (lpt_no (e := true) (i := j) hbq)
                clear hbq
                gi_wp2_with fail
                refine ⟨trivial, ?_⟩
                refine (callsIn_wide.2 hb).mono ?_
                rintro e w' ⟨rfl, rfl⟩
                clear hb
                gi_wp2_with (with_reducible refine And.intro (fun _ hh => by cases hh) ?_)
                go_roundw
                case rel => exact ⟨q + 1, by omega, by go_num, by rw [HN.out]; exact hQ⟩
                case measure => simp [RowKit.intOf]; omega
              · rw [hbq] at hb
                obtain ⟨r, hr⟩ := mks_at (e := true) (n := n) hkn HST.out hks hbq
                obtain ⟨fn, tmps, assign, body, hy, hRd⟩ := HY.out _ (j, q) wr ⟨r, hr⟩ (by have := hQ.out.2.1; omega) hQ.out.1
                have HN := Lib.hid (lpt_yes (e := true) (i := j) hbq)
                have HRD := Lib.hid hRd
                have HRR := Lib.hid hr
                have HQ := Lib.hid hQ
                dsimp only [encp] at hy
                clear hRd hr hbq hQ
                gi_wp2_with fail
                refine ⟨trivial, ?_⟩
                refine (callsIn_wide.2 hb).mono ?_
                rintro e w' ⟨rfl, rfl⟩
                clear hb
                gi_wp2
                refine (roundIn_any HRD.out).mono ?_
                rintro e W5 ⟨⟨hsz5, _⟩, (⟨rfl, hJ5, hk5⟩ | ⟨rfl, hJx5⟩)⟩
                · have hHQ := HQ.out.out
                  have hz5 := hHQ.2.1
                  have H5 := Lib.hid hJ5
                  have HF5 := Lib.hid (hHQ.2.2.trans hk5)
                  clear hJ5 hk5 hHQ hy
                  gi_wp2
                  go_roundw
                  case rel => exact ⟨q + 1, by omega, by go_num, by rw [HN.out, ← List.append_assoc]; exact H5.out, by omega, HF5.out⟩
                  case measure => simp [RowKit.intOf]; omega
                · have H5 := Lib.hid hJx5
                  clear hJx5 hy
                  gi_wp2
                  refine bodyPost_ret (results_none rfl _ _ _) rfl ?_
                  refine ⟨⟨_, rfl⟩, .inr ⟨_, ?_, ?_, H5.out⟩⟩
                  · exact ⟨r, by rw [HRR.out]; simp⟩
                  · simp
            · obtain rfl : q = st.size := by omega
              gi_wp2
              go_roundw
              case rel =>
                refine ⟨j + 1, by omega, by go_num, ?_⟩
                rw [mks_succ, ← HST.out]
                exact hQ
              case measure => simp [RowKit.intOf]; omega
        · have H3 := Lib.hid hJx3
          clear hJx3
          gi_wp2
          refine bodyPost_ret (results_none rfl _ _ _) rfl ?_
          refine ⟨⟨_, rfl⟩, .inr ⟨mks true (beg big) ls j ++ [(j, 0)], ?_, by simp, H3.out⟩⟩
          exact ⟨r, by rw [HRR.out]; simp⟩
      · have he := empty_of_pos (x := st) (by omega)
        have HI : Hid (J (mks true (beg big) ls j ++ lpt true (beg big) j st 0) wr ∧ W.heap.size ≤ wr.heap.size ∧ Kn w W wr) := by rw [lpt_zero (by omega), List.append_nil]; exact hR
        clear hz hR
        gi_wp2_with (with_reducible refine And.intro (fun _ hh => by cases hh) ?_)
        clear he c3
        gi_loopw [25] (fun u wq => ∃ q : Nat, q ≤ st.size ∧ u = .int .i64 q ∧ Hid (J (mks true (beg big) ls j ++ lpt true (beg big) j st q) wq ∧ W.heap.size ≤ wq.heap.size ∧ Kn w W wq)) (fun u _ => st.size - (RowKit.intOf u).toNat)
        case atStart => exact ⟨0, Nat.zero_le _, rfl, HI⟩
        case round =>
          obtain ⟨q, hqn, rfl, hQ⟩ := hrel
          by_cases hks : q < st.size
          · have c1 := Kn.cell hW hQ.out.2.2 H0.out.2
            have hb := begins_any st q big wr hks (by omega)
            cases hbq : beg big st q
            · rw [hbq] at hb
              have HN := Lib.hid (lpt_no (e := true) (i := j) hbq)
              clear hbq
              gi_wp2_with fail
              refine ⟨trivial, ?_⟩
              refine (callsIn_wide.2 hb).mono ?_
              rintro e w' ⟨rfl, rfl⟩
              clear hb
              gi_wp2_with (with_reducible refine And.intro (fun _ hh => by cases hh) ?_)
              go_roundw
              case rel => exact ⟨q + 1, by omega, by go_num, by rw [HN.out]; exact hQ⟩
              case measure => simp [RowKit.intOf]; omega
            · rw [hbq] at hb
              obtain ⟨r, hr⟩ := mks_at (e := true) (n := n) hkn HST.out hks hbq
              obtain ⟨fn, tmps, assign, body, hy, hRd⟩ := HY.out _ (j, q) wr ⟨r, hr⟩ (by have := hQ.out.2.1; omega) hQ.out.1
              have HN := Lib.hid (lpt_yes (e := true) (i := j) hbq)
              have HRD := Lib.hid hRd
              have HRR := Lib.hid hr
              have HQ := Lib.hid hQ
              dsimp only [encp] at hy
              clear hRd hr hbq hQ
              gi_wp2_with fail
              refine ⟨trivial, ?_⟩
              refine (callsIn_wide.2 hb).mono ?_
              rintro e w' ⟨rfl, rfl⟩
              clear hb
              gi_wp2
              refine (roundIn_any HRD.out).mono ?_
              rintro e W5 ⟨⟨hsz5, _⟩, (⟨rfl, hJ5, hk5⟩ | ⟨rfl, hJx5⟩)⟩
              · have hHQ := HQ.out.out
                have hz5 := hHQ.2.1
                have H5 := Lib.hid hJ5
                have HF5 := Lib.hid (hHQ.2.2.trans hk5)
                clear hJ5 hk5 hHQ hy
                gi_wp2
                go_roundw
                case rel => exact ⟨q + 1, by omega, by go_num, by rw [HN.out, ← List.append_assoc]; exact H5.out, by omega, HF5.out⟩
                case measure => simp [RowKit.intOf]; omega
              · have H5 := Lib.hid hJx5
                clear hJx5 hy
                gi_wp2
                refine bodyPost_ret (results_none rfl _ _ _) rfl ?_
                refine ⟨⟨_, rfl⟩, .inr ⟨_, ?_, ?_, H5.out⟩⟩
                · exact ⟨r, by rw [HRR.out]; simp⟩
                · simp
          · obtain rfl : q = st.size := by omega
            gi_wp2
            go_roundw
            case rel =>
              refine ⟨j + 1, by omega, by go_num, ?_⟩
              rw [mks_succ, ← HST.out]
              exact hQ
            case measure => simp [RowKit.intOf]; omega
    · obtain rfl : j = n := by omega
      gi_wp2
      go_end0
      exact ⟨⟨_, rfl⟩, .inl hR.out.1⟩

theorem starts_new (a : Option Addr) (n c : Nat) (big : Bool) (w : World) : Calls Try.prog 28 #[.slice a n c, .bool big] w fun e w' =>
    e = .returned (.func (.func 47) #[] #[.pointer (some ⟨w.heap.size, 0, none⟩), .pointer (some ⟨w.heap.size + 1, 0, none⟩)]) ∧
    (w.alloc (.cells #[.slice a n c] 22)).alloc (.cells #[.bool big] 4) = w' := by
  go_enter Try.func28, Try.ntmps28
  go_wp2
  go_ret
  exact ⟨rfl, rfl⟩

set_option maxHeartbeats 4000000 in
theorem ends_iter {a : Option Addr} {n c : Nat} {ls : List ByteArray} (w : World) (bl bb : Nat) (big : Bool) (h : Ss w a n c ls) (hs : ∀ s ∈ ls, s.size ≤ 140737488355328)
    (h0 : w.cell? ⟨bl, 0, none⟩ = some (.slice a n c)) (h1 : w.cell? ⟨bb, 0, none⟩ = some (.bool big)) :
    Iter Try.prog 49 #[.pointer (some ⟨bl, 0, none⟩), .pointer (some ⟨bb, 0, none⟩)] encp 0 (Kn w) (eds big ls) w := fun l J Jx W hW hJ hJx hY hj0 => by
  have hn := h.le63
  have hlen := h.length
  have d0 := Kn.cell hW (Fr.refl _ W) h0
  have HY := Lib.hid hY
  unfold eds at hY HY
  rw [hlen] at HY
  have HJ0 := Lib.hid hj0
  have H0 := Lib.hid (And.intro h0 h1)
  unfold eds
  rw [hlen]
  clear hY hj0 h0 h1
  refine callsIn_of_wp Try.func49 rfl trivial ?_ rfl
  simp only [Try.ntmps49, List.size_toArray, List.length_cons, List.length_nil, Nat.reduceAdd, Nat.reduceSub, Array.replicate_succ, Array.replicate_zero, List.push_toArray, List.append_toArray, List.nil_append, List.cons_append]
  gi_wp2
  clear d0
  gi_loopw [9] (fun i wr => ∃ j : Nat, j ≤ n ∧ i = .int .i64 j ∧ Hid (J (mks false (fin big) ls j) wr ∧ W.heap.size ≤ wr.heap.size ∧ Kn w W wr)) (fun i _ => n - (RowKit.intOf i).toNat)
  case atStart => exact ⟨0, Nat.zero_le _, rfl, HJ0.out, Nat.le_refl _, Fr.refl _ _⟩
  case round =>
    obtain ⟨j, hjn, rfl, hR⟩ := hrel
    by_cases hkn : j < n
    · obtain ⟨b, o, rfl, hcx, hnc, _⟩ := h.read j (by omega)
      have hlt := lineAt_get (ls := ls) (k := j) (by omega)
      have hstz := hs (ls[j]'(by omega)) (List.getElem_mem (by omega))
      have c3 := Kn.cell hW hR.out.2.2 hcx
      rw [← hlt] at c3 hstz
      obtain ⟨st, hst⟩ : ∃ st, st = lineAt ls j := ⟨_, rfl⟩
      rw [← hst] at c3 hstz
      have HST := Lib.hid hst
      have HH := Lib.hid h
      clear hcx hlt hst h
      have HI : Hid (J (mks false (fin big) ls j ++ lpt false (fin big) j st 0) wr ∧ W.heap.size ≤ wr.heap.size ∧ Kn w W wr) := by rw [lpt_none, List.append_nil]; exact hR
      clear hR
      gi_wp2
      clear c3
      gi_loopw [16] (fun u wq => ∃ q : Nat, q ≤ st.size ∧ u = .int .i64 q ∧ Hid (J (mks false (fin big) ls j ++ lpt false (fin big) j st q) wq ∧ W.heap.size ≤ wq.heap.size ∧ Kn w W wq)) (fun u _ => st.size - (RowKit.intOf u).toNat)
      case atStart => exact ⟨0, Nat.zero_le _, rfl, HI⟩
      case round =>
        obtain ⟨q, hqn, rfl, hQ⟩ := hrel
        by_cases hks : q < st.size
        · have c1 := Kn.cell hW hQ.out.2.2 H0.out.2
          have hb := finishes_any st q big wr hks (by omega)
          cases hbq : fin big st q
          · rw [hbq] at hb
            have HN := Lib.hid (lpt_no (e := false) (i := j) hbq)
            clear hbq
            gi_wp2_with fail
            refine ⟨trivial, ?_⟩
            refine (callsIn_wide.2 hb).mono ?_
            rintro e w' ⟨rfl, rfl⟩
            clear hb
            gi_wp2_with (with_reducible refine And.intro (fun _ hh => by cases hh) ?_)
            go_roundw
            case rel => exact ⟨q + 1, by omega, by go_num, by rw [HN.out]; exact hQ⟩
            case measure => simp [RowKit.intOf]; omega
          · rw [hbq] at hb
            obtain ⟨r, hr⟩ := mks_at (e := false) (n := n) hkn HST.out hks hbq
            obtain ⟨fn, tmps, assign, body, hy, hRd⟩ := HY.out _ (j, q) wr ⟨r, hr⟩ (by have := hQ.out.2.1; omega) hQ.out.1
            have HN := Lib.hid (lpt_yes (e := false) (i := j) hbq)
            have HRD := Lib.hid hRd
            have HRR := Lib.hid hr
            have HQ := Lib.hid hQ
            dsimp only [encp] at hy
            clear hRd hr hbq hQ
            gi_wp2_with fail
            refine ⟨trivial, ?_⟩
            refine (callsIn_wide.2 hb).mono ?_
            rintro e w' ⟨rfl, rfl⟩
            clear hb
            gi_wp2
            refine (roundIn_any HRD.out).mono ?_
            rintro e W5 ⟨⟨hsz5, _⟩, (⟨rfl, hJ5, hk5⟩ | ⟨rfl, hJx5⟩)⟩
            · have hHQ := HQ.out.out
              have hz5 := hHQ.2.1
              have H5 := Lib.hid hJ5
              have HF5 := Lib.hid (hHQ.2.2.trans hk5)
              clear hJ5 hk5 hHQ hy
              gi_wp2
              go_roundw
              case rel => exact ⟨q + 1, by omega, by go_num, by rw [HN.out, ← List.append_assoc]; exact H5.out, by omega, HF5.out⟩
              case measure => simp [RowKit.intOf]; omega
            · have H5 := Lib.hid hJx5
              clear hJx5 hy
              gi_wp2
              refine bodyPost_ret (results_none rfl _ _ _) rfl ?_
              refine ⟨⟨_, rfl⟩, .inr ⟨_, ?_, ?_, H5.out⟩⟩
              · exact ⟨r, by rw [HRR.out]; simp⟩
              · simp
        · obtain rfl : q = st.size := by omega
          gi_wp2
          go_roundw
          case rel =>
            refine ⟨j + 1, by omega, by go_num, ?_⟩
            rw [mks_succ, ← HST.out]
            exact hQ
          case measure => simp [RowKit.intOf]; omega
    · obtain rfl : j = n := by omega
      gi_wp2
      go_end0
      exact ⟨⟨_, rfl⟩, .inl hR.out.1⟩

theorem ends_new (a : Option Addr) (n c : Nat) (big : Bool) (w : World) : Calls Try.prog 30 #[.slice a n c, .bool big] w fun e w' =>
    e = .returned (.func (.func 49) #[] #[.pointer (some ⟨w.heap.size, 0, none⟩), .pointer (some ⟨w.heap.size + 1, 0, none⟩)]) ∧
    (w.alloc (.cells #[.slice a n c] 22)).alloc (.cells #[.bool big] 4) = w' := by
  go_enter Try.func30, Try.ntmps30
  go_wp2
  go_ret
  exact ⟨rfl, rfl⟩

end Go.Proofs.Ytdgckgfbdplnpaa.Wd
