/-
  Package find: the places of a pattern, one by one (occurrences, All).
-/
import Derived.Test.YthlneojhkhhmbaaFl
import Derived.Test.YthlneojhkhhmbaaFh
import Derived.Test.YthlneojhkhhmbaaZa
import Derived.Test.YthlneojhkhhmbaaQh
set_option linter.unusedVariables false
set_option linter.unusedSimpArgs false
set_option maxRecDepth 100000
namespace Go.Proofs.Ythlneojhkhhmbaa.Fd
open Go Go.RowKit Go.Proofs.Ythlneojhkhhmbaa.Vk Go.Proofs.Ythlneojhkhhmbaa.Str Go.Proofs.Ythlneojhkhhmbaa.Ln Go.Proofs.Ythlneojhkhhmbaa.Cl Go.Proofs.Ythlneojhkhhmbaa.Mv Go.Proofs.Ythlneojhkhhmbaa.Wd Go.Shelf
attribute [local go_sem] Oper.semAt_some

/-- strings.HasPrefix. -/
theorem hasp_in (s p : ByteArray) (w : World) : Calls Try.prog 43 #[.string s, .string p] w fun e w' => e = .returned (.bool (decide (p.size ≤ s.size) && ((s.extract 0 p.size).toList == p.toList))) ∧ w = w' := by
  by_cases h : p.size ≤ s.size
  · rw [decide_eq_true h]
    go_enter Try.func43, Try.ntmps43
    go_wp2
    go_ret
    exact ⟨by simp, rfl⟩
  · rw [decide_eq_false h]
    go_enter Try.func43, Try.ntmps43
    go_wp2
    go_ret
    exact ⟨by simp, rfl⟩
theorem hasp_any (s p : ByteArray) (w : World) : Calls Try.prog 39 #[.string s, .string p] w fun e w' => e = .returned (.bool (decide (p.size ≤ s.size) && ((s.extract 0 p.size).toList == p.toList))) ∧ w = w' := by
  have h1 := hasp_in s p w
  generalize (decide (p.size ≤ s.size) && ((s.extract 0 p.size).toList == p.toList)) = B at *
  go_enter Try.func39, Try.ntmps39
  go_wp2_with fail
  refine h1.mono ?_
  rintro e w' ⟨rfl, rfl⟩
  clear h1
  go_wp2
  go_ret
  exact ⟨rfl, rfl⟩
theorem ext_ext (s : ByteArray) (q m : Nat) : (s.extract q s.size).extract 0 m = s.extract q (q + m) := by
  apply str_inj
  rw [ByteArray.toList_eq, ByteArray.toList_eq, ext_upto, ext_from, ext_list, List.drop_take]
  congr 1; omega
theorem ext_size {s : ByteArray} {q : Nat} (h : q ≤ s.size) : (s.extract q s.size).size = s.size - q := by
  rw [← size_str, ext_from, List.length_drop, size_str]
/-- .. from a column on. -/
theorem hasp_occ (s p : ByteArray) (q : Nat) (hq : q ≤ s.size) (h0 : 0 < p.size) (w : World) : Calls Try.prog 39 #[.string (s.extract q s.size), .string p] w fun e w' => e = .returned (.bool (occ p s q)) ∧ w = w' := by
  have h := hasp_any (s.extract q s.size) p w
  rw [ext_ext, ext_size hq, show decide (p.size ≤ s.size - q) = decide (0 < p.size ∧ q + p.size ≤ s.size) from decide_eq_decide.2 (by omega)] at h
  exact h

set_option maxHeartbeats 4000000 in
theorem occ_iter {a : Option Addr} {n c : Nat} {ls : List ByteArray} (S : Nat → Prop) (w : World) (bl bp : Nat) (pt : ByteArray) (h : Ss w a n c ls) (hs : ∀ s ∈ ls, s.size ≤ 140737488355328)
    (h0 : w.cell? ⟨bl, 0, none⟩ = some (.slice a n c)) (h1 : w.cell? ⟨bp, 0, none⟩ = some (.string pt)) (hSb : ¬ S bl) (hSp : ¬ S bp) (hSl : 0 < n → ∀ k, blk (.slice a n c) = some k → ¬ S k) :
    Iter Try.prog 38 #[.pointer (some ⟨bp, 0, none⟩), .pointer (some ⟨bl, 0, none⟩)] encp 0 (Fr S) (pls pt ls) w := fun l J Jx W hW hJ hJx hY hj0 => by
  have hn := h.le63
  have hlen := h.length
  have hmx : Try.prog.follows .mixedOrders = true := by kernel_rfl
  have d0 := cell_later hW h0
  have d1 := cell_later hW h1
  by_cases hz : pt.size = 0
  · rw [pls_none hz]
    have he := empty_of_zero hz
    have HJ0 := Lib.hid hj0
    clear hY hj0 h hz hs hSl
    refine callsIn_of_wp Try.func38 rfl trivial ?_ rfl
    simp only [Try.ntmps38, List.size_toArray, List.length_cons, List.length_nil, Nat.reduceAdd, Nat.reduceSub, Array.replicate_succ, Array.replicate_zero, List.push_toArray, List.append_toArray, List.nil_append, List.cons_append]
    gi_wp2
    refine bodyPost_ret (results_none rfl _ _ _) rfl ?_
    exact ⟨⟨_, rfl⟩, .inl HJ0.out⟩
  · have he := empty_of_pos (x := pt) (by omega)
    have hpz : 0 < pt.size := by omega
    have HY := Lib.hid hY
    unfold pls at hY HY
    rw [hlen] at HY
    have HJ0 := Lib.hid hj0
    have H0 := Lib.hid (And.intro h0 h1)
    unfold pls
    rw [hlen]
    clear hY hj0 h0 h1 hz
    refine callsIn_of_wp Try.func38 rfl trivial ?_ rfl
    simp only [Try.ntmps38, List.size_toArray, List.length_cons, List.length_nil, Nat.reduceAdd, Nat.reduceSub, Array.replicate_succ, Array.replicate_zero, List.push_toArray, List.append_toArray, List.nil_append, List.cons_append]
    gi_wp2
    clear d0 d1 he
    gi_loopw [11] (fun i wr => ∃ j : Nat, j ≤ n ∧ i = .int .i64 j ∧ Hid (J (mks false (occ pt) ls j) wr ∧ W.heap.size ≤ wr.heap.size ∧ Fr S W wr)) (fun i _ => n - (RowKit.intOf i).toNat)
    case atStart => exact ⟨0, Nat.zero_le _, rfl, HJ0.out, Nat.le_refl _, Fr.refl _ _⟩
    case round =>
      obtain ⟨j, hjn, rfl, hR⟩ := hrel
      by_cases hkn : j < n
      · obtain ⟨b, o, rfl, hcx, hnc, _⟩ := h.read j (by omega)
        have hlt := lineAt_get (ls := ls) (k := j) (by omega)
        have hstz := hs (ls[j]'(by omega)) (List.getElem_mem (by omega))
        have c3 := Fr.cell hR.out.2.2 (cell_later hW hcx) (hSl (by omega) b rfl)
        rw [← hlt] at c3 hstz
        obtain ⟨st, hst⟩ : ∃ st, st = lineAt ls j := ⟨_, rfl⟩
        rw [← hst] at c3 hstz
        have HST := Lib.hid hst
        have HH := Lib.hid (And.intro h hSl)
        have HI : Hid (J (mks false (occ pt) ls j ++ lpt false (occ pt) j st 0) wr ∧ W.heap.size ≤ wr.heap.size ∧ Fr S W wr) := by rw [lpt_none, List.append_nil]; exact hR
        clear hcx hlt hst h hR hSl
        gi_wp2
        clear c3
        gi_loopw [18] (fun u wq => ∃ q : Nat, q ≤ st.size ∧ u = .int .i64 q ∧ Hid (J (mks false (occ pt) ls j ++ lpt false (occ pt) j st q) wq ∧ W.heap.size ≤ wq.heap.size ∧ Fr S W wq)) (fun u _ => st.size - (RowKit.intOf u).toNat)
        case atStart => exact ⟨0, Nat.zero_le _, rfl, HI⟩
        case round =>
          obtain ⟨q, hqn, rfl, hQ⟩ := hrel
          by_cases hks : q < st.size
          · have c1 := Fr.cell hQ.out.2.2 (cell_later hW H0.out.2) hSp
            have hb := (hasp_occ st pt q (by omega) hpz wr.drew).mono fun e w' (h : e = _ ∧ wr.drew = w') => (⟨h.1, h.2.symm⟩ : e = _ ∧ w' = wr.drew)
            have HQD : Hid (J (mks false (occ pt) ls j ++ lpt false (occ pt) j st q) wr.drew ∧ W.heap.size ≤ wr.drew.heap.size ∧ Fr S W wr.drew) :=
              ⟨hJ _ _ _ none hQ.out.1 (grown_below ((Below.refl _ wr).drew)) (fun _ e => by cases e), hQ.out.2.1, hQ.out.2.2.drew⟩
            have b0 : (q : Int) ≤ (st.size : Int) := by omega
            have b1 : q ≤ st.size := by omega
            cases hbq : occ pt st q
            · rw [hbq] at hb
              have HN := Lib.hid (lpt_no (e := false) (i := j) hbq)
              clear hbq
              gi_wp2
              refine Qh.wpIn_wide_head 10 hmx (by kernel_rfl) (by kernel_rfl) ?_
              simp only [List.take_succ_cons, List.take_zero, List.drop_succ_cons, List.drop_zero]
              repeat (first | still_step | still_call hb)
              refine wpStill_nil ?_
              clear hb
              gi_wp2_with (with_reducible refine And.intro (fun _ hh => by cases hh) ?_)
              go_roundw
              case rel => exact ⟨q + 1, by omega, by go_num, by rw [HN.out]; exact HQD⟩
              case measure => simp [RowKit.intOf]; omega
            · rw [hbq] at hb
              obtain ⟨r, hr⟩ := mks_at (e := false) (n := n) hkn HST.out hks hbq
              obtain ⟨fn, tmps, assign, body, hy, hRd⟩ := HY.out _ (j, q) wr.drew ⟨r, hr⟩ (by have := HQD.out.2.1; omega) HQD.out.1
              have HN := Lib.hid (lpt_yes (e := false) (i := j) hbq)
              have HRD := Lib.hid hRd
              have HRR := Lib.hid hr
              have HQ := Lib.hid HQD
              dsimp only [encp] at hy
              clear hRd hr hbq hQ HQD
              gi_wp2
              refine Qh.wpIn_wide_head 10 hmx (by kernel_rfl) (by kernel_rfl) ?_
              simp only [List.take_succ_cons, List.take_zero, List.drop_succ_cons, List.drop_zero]
              repeat (first | still_step | still_call hb)
              refine wpStill_nil ?_
              clear hb
              gi_wp2
              refine (roundIn_any HRD.out).mono ?_
              rintro e W5 ⟨⟨hsz5, _⟩, (⟨rfl, hJ5, hk5⟩ | ⟨rfl, hJx5⟩)⟩
              · have hHQ := HQ.out.out
                have hz5 := hHQ.2.1
                have H5 := Lib.hid hJ5
                have HF5 := Lib.hid (hHQ.2.2.trans hk5)
                clear hJ5 hk5 hHQ hy
                gi_wp2
                go_roundw
                case rel => exact ⟨q + 1, by omega, by go_num, by rw [HN.out, ← List.append_assoc]; exact H5.out, by omega, HF5.out⟩
                case measure => simp [RowKit.intOf]; omega
              · have H5 := Lib.hid hJx5
                clear hJx5 hy
                gi_wp2
                refine bodyPost_ret (results_none rfl _ _ _) rfl ?_
                refine ⟨⟨_, rfl⟩, .inr ⟨_, ?_, ?_, H5.out⟩⟩
                · exact ⟨r, by rw [HRR.out]; simp⟩
                · simp
          · obtain rfl : q = st.size := by omega
            gi_wp2
            go_roundw
            case rel => exact ⟨j + 1, by omega, by go_num, by rw [mks_succ, ← HST.out]; exact hQ⟩
            case measure => simp [RowKit.intOf]; omega
      · obtain rfl : j = n := by omega
        gi_wp2
        go_end0
        exact ⟨⟨_, rfl⟩, .inl hR.out.1⟩

theorem occ_new (a : Option Addr) (n c : Nat) (pt : ByteArray) (w : World) : Calls Try.prog 24 #[.slice a n c, .string pt] w fun e w' =>
    e = .returned (.func (.func 38) #[] #[.pointer (some ⟨w.heap.size + 1, 0, none⟩), .pointer (some ⟨w.heap.size, 0, none⟩)]) ∧ (w.alloc (.cells #[.slice a n c] 22)).alloc (.cells #[.string pt] 9) = w' := by
  go_enter Try.func24, Try.ntmps24
  go_wp2
  go_ret
  exact ⟨by simp, rfl⟩
theorem occ_tells (a : Option Addr) (n c : Nat) (ls : List ByteArray) (pt : ByteArray) (w : World) (h : Ss w a n c ls) (hs : ∀ s ∈ ls, s.size ≤ 140737488355328) : Calls Try.prog 24 #[.slice a n c, .string pt] w fun e w' =>
    ∃ v, e = .returned v ∧ Tells w' v 0 (pls pt ls) ∧ Below w.heap.size w w' := by
  refine (occ_new a n c pt w).mono ?_
  rintro e w' ⟨rfl, rfl⟩
  have hb := two_below w (.cells #[.slice a n c] 22) (.cells #[.string pt] 9)
  refine ⟨_, rfl, ⟨_, _, rfl, enters_of Try.func38 (by kernel_rfl) rfl, ?_⟩, hb⟩
  refine occ_iter _ _ _ _ pt (SrcV.below h hb) hs ?_ ?_ (by simp; omega) (by simp) ?_
  · exact cell_one ((cell_of_row _ _ 0 _ _ _ (heap_alloc_new w _)).trans (by simp)) _
  · exact (cell_of_row _ _ 0 _ _ _ (two_new w _ _)).trans (by simp)
  · intro h0 k hk hh
    have := SrcV.blkLt h (by omega) k hk
    simp at hh
    omega
/-- .. where the caller's own blocks M may be written between. -/
theorem occ_keep (a : Option Addr) (n c : Nat) (ls : List ByteArray) (pt : ByteArray) (M : Nat → Prop) (w : World) (h : Ss w a n c ls) (hs : ∀ s ∈ ls, s.size ≤ 140737488355328) (hM : ∀ k, M k → k < w.heap.size) (hMl : 0 < n → ∀ k, blk (.slice a n c) = some k → ¬ M k) : Calls Try.prog 24 #[.slice a n c, .string pt] w fun e w' =>
    ∃ g lb, e = .returned (.func (.func g) #[] lb) ∧ (∀ args w', (callFunc g args).run Try.prog w' = .ok (.enter g args) w') ∧ Iter Try.prog g lb encp 0 (Fr (fun k => M k ∨ w'.heap.size ≤ k)) (pls pt ls) w' ∧ Below w.heap.size w w' ∧ w'.heap.size = w.heap.size + 2 := by
  refine (occ_new a n c pt w).mono ?_
  rintro e w' ⟨rfl, rfl⟩
  have hb := two_below w (.cells #[.slice a n c] 22) (.cells #[.string pt] 9)
  refine ⟨_, _, rfl, enters_of Try.func38 (by kernel_rfl) rfl, ?_, hb, by simp⟩
  refine occ_iter _ _ _ _ pt (SrcV.below h hb) hs ?_ ?_ ?_ ?_ ?_
  · exact cell_one ((cell_of_row _ _ 0 _ _ _ (heap_alloc_new w _)).trans (by simp)) _
  · exact (cell_of_row _ _ 0 _ _ _ (two_new w _ _)).trans (by simp)
  · rintro (hh | hh)
    · have := hM _ hh; omega
    · simp at hh <;> omega
  · rintro (hh | hh)
    · have := hM _ hh; omega
    · simp at hh <;> omega
  · rintro h0 k hk (hh | hh)
    · exact hMl h0 k hk hh
    · have := SrcV.blkLt h (by omega) k hk
      simp at hh
      omega

theorem All_tells (a : Option Addr) (n c : Nat) (ls : List ByteArray) (pt : ByteArray) (w : World) (h : Ss w a n c ls) (hs : ∀ s ∈ ls, s.size ≤ 140737488355328) (hn : n ≤ 1000000) : Calls Try.prog 13 #[.slice a n c, .string pt] w fun e w' =>
    ∃ v, e = .returned v ∧ Tells w' v 0 (pls pt ls) ∧ Below w.heap.size w w' := by
  have h1 := clone_any a n c ls w h hn
  go_enter Try.func13, Try.ntmps13
  go_wp2_with fail
  refine h1.mono ?_
  rintro e w1 ⟨b, cc, rfl, hs1, hb1⟩
  have h2 := occ_tells b n cc ls pt w1 hs1 hs
  have HB := Lib.hid hb1
  clear h1 hs1 hb1 h
  go_wp2_with fail
  refine h2.mono ?_
  rintro e w2 ⟨v, rfl, ht, hb2⟩
  have HT := Lib.hid ht
  have HB2 := Lib.hid (below_on HB.out hb2)
  clear h2 ht hb2
  go_wp2
  go_ret
  exact ⟨v, rfl, HT.out, HB2.out⟩
end Go.Proofs.Ythlneojhkhhmbaa.Fd
