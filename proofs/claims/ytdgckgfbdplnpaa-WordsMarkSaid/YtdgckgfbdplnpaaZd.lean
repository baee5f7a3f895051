/-
  The document's Starts and Ends.
-/
import Derived.Test.YtdgckgfbdplnpaaZp
import Derived.Test.YtdgckgfbdplnpaaZq
set_option linter.unusedVariables false
set_option linter.unusedSimpArgs false
set_option maxRecDepth 100000
namespace Go.Proofs.Ytdgckgfbdplnpaa.Wd
open Go Go.RowKit Go.Proofs.Ytdgckgfbdplnpaa.Vk Go.Proofs.Ytdgckgfbdplnpaa.Str Go.Proofs.Ytdgckgfbdplnpaa.Ln Go.Proofs.Ytdgckgfbdplnpaa.Cl Go.Proofs.Ytdgckgfbdplnpaa.Mv
attribute [local go_sem] Oper.semAt_some

/-- A row of N places of one's own, made behind w. -/
def Own (w : World) (L : List P2) (N : Nat) (b : Option Addr) (cc : Nat) (W : World) : Prop := L.length = N ∧ W.ownsRow w.heap.size EP 2 (.slice b N cc) N (flat L) ∧ Below w.heap.size w W
theorem Own.nil (w : World) : Own w [] 0 none 0 w := ⟨rfl, World.ownsRow_nil _ _ _ _, Below.refl _ _⟩
theorem Own.nil' {w W : World} (h : Below w.heap.size w W) : Own w [] 0 none 0 W := ⟨rfl, World.ownsRow_nil _ _ _ _, h⟩
theorem Own.built {w W : World} {L : List P2} {N : Nat} {b : Option Addr} {cc : Nat} (h : Own w L N b cc W) (O : Obj) : (W.alloc O).ownsRow w.heap.size EP 2 (.slice b N cc) N (flat L) :=
  ownsRow_fr h.2.1 ((Fr.refl (fun _ => False) W).alloc O) (by simp)
theorem Own.below {w W V : World} {L : List P2} {N : Nat} {b : Option Addr} {cc : Nat} (h : Own w L N b cc W) (hb : Below W.heap.size W V) : Own w L N b cc V :=
  ⟨h.1, ownsRow_fr h.2.1 (Fr.ofBelow hb (fun _ => False)) (by simp), h.2.2.trans (hb.mono h.2.2.size)⟩
theorem Own.app {w W V : World} {L : List P2} {N : Nat} {b ob : Option Addr} {cc oc : Nat} {x : P2} {O : Obj} (h : Own w L N b cc W) (hown : V.ownsRow w.heap.size EP 2 (.slice ob (N + 1) oc) (N + 1) (flat L ++ [.int .i64 x.1, .int .i64 x.2]))
    (hg : (W.alloc O).grownBy V (Value.slice b N cc).ownBlock) : Own w (L ++ [x]) (N + 1) ob oc V := by
  refine ⟨by rw [List.length_append, h.1]; rfl, ?_, ?_⟩
  · rw [flat_append, flat_one]; exact hown
  · have := h.2.2.size
    exact (h.2.2.alloc h.2.2.size O).grown hg (by simp; omega) (fun k e => (h.2.1.lt k e).1)
theorem Own.ps {w W : World} {L : List P2} {N : Nat} {b : Option Addr} {cc : Nat} (h : Own w L N b cc W) : Ps W b N cc L := Ps.ofOwn h.2.1

set_option maxHeartbeats 4000000 in
theorem starts5_any (a : Option Addr) (n c : Nat) (ls : List ByteArray) (big : Bool) (w : World) (h : Ss w a n c ls) (hs : ∀ s ∈ ls, s.size ≤ 140737488355328) (htz : tz ls ≤ 900000) :
    Calls Try.prog 13 #[.slice a n c, .bool big] w fun e w' => ∃ b cc, e = .returned (.slice b (sts big ls).length cc) ∧ Ps w' b (sts big ls).length cc (sts big ls) ∧ Below w.heap.size w w' := by
  have hn := h.le63
  have hlen := h.length
  obtain ⟨i0, hi0, hz0, hz1', hz2'⟩ := info_parts infoP
  have HTZ := Lib.hid (show (mks true (beg big) ls ls.length).length ≤ 900000 from Nat.le_trans (mks_tz _ _ _) htz)
  unfold sts
  go_enter Try.func13, Try.ntmps13
  go_wp2
  go_loopw [5, 6] (fun u i wr => ∃ (j N : Nat) (b : Option Addr) (cc : Nat), j ≤ n ∧ u = .slice b N cc ∧ i = .int .i64 j ∧ Hid (Own w (mks true (beg big) ls j) N b cc wr)) (fun u i _ => n - (RowKit.intOf i).toNat)
  case atStart => exact ⟨0, 0, none, 0, Nat.zero_le _, rfl, rfl, Own.nil w⟩
  case round =>
    obtain ⟨j, N, b, cc, hjn, rfl, rfl, HW⟩ := hrel
    by_cases hkn : j < n
    · obtain ⟨ba, o, rfl, hcx, hnc, _⟩ := h.read j (by omega)
      have hlt := lineAt_get (ls := ls) (k := j) (by omega)
      have hstz := hs (ls[j]'(by omega)) (List.getElem_mem (by omega))
      have hstz2 := tz_mem ls (ls[j]'(by omega)) (List.getElem_mem (by omega))
      have c3 := cell_later HW.out.2.2 hcx
      rw [← hlt] at c3 hstz hstz2
      obtain ⟨st, hst⟩ : ∃ st, st = lineAt ls j := ⟨_, rfl⟩
      rw [← hst] at c3 hstz hstz2
      have hst9 : st.size ≤ 900000 := by omega
      have HST := Lib.hid hst
      have HH := Lib.hid h
      clear hcx hlt hst h
      by_cases hz : st.size = 0
      · have he := empty_of_zero hz
        have hLb : N ≤ 2000000 := by
          have h5 := HW.out.1
          obtain ⟨r, hr⟩ := mks_cut (e := true) (pr := beg big) (ls := ls) (n := ls.length) (i := j) (by omega)
          have h3 := HTZ.out
          rw [hr, List.length_append, List.length_append] at h3
          omega
        have HZ := Lib.hid hz
        clear hz hstz2
        go_wp2_with (at_builtin; go_must (refine append_srcv _ rfl _ _ 25 rfl w.heap.size EP i0 (.agg #[.int .i64 0, .int .i64 0]) 2 16 underP hi0 hz0 hz1' hz2' rfl (by decide) (.slice b N cc) _ _ rfl (HW.out.built _) (.slice (some ⟨wr.heap.size, 0, none⟩) 1 1) 1 [.int .i64 (j : Int), .int .i64 0] rfl (SrcV.pos wr (j : Int) 0) (by simp only [maxLen]; omega) (by omega) (by have := HW.out.2.2.size; simp; omega) ?_); intro ob oc V hown hg hnr; have HO := Lib.hid (HW.out.app (x := (j, 0)) hown hg); clear hown hg hnr)
        have hz := HZ.out
        have HI : Hid (Own w (mks true (beg big) ls j ++ lpt true (beg big) j st 0) (N + 1) ob oc V) := by rw [lpt_empty hz]; exact HO.out
        obtain ⟨b, hb⟩ : ∃ b, b = ob := ⟨_, rfl⟩
        obtain ⟨cc, hcc⟩ : ∃ cc, cc = oc := ⟨_, rfl⟩
        rw [← hb, ← hcc] at HI ⊢
        clear HO hb hcc hz he c3
        go_loopw [5, 8] (fun u i wq => ∃ (q N : Nat) (b : Option Addr) (cc : Nat), q ≤ st.size ∧ u = .slice b N cc ∧ i = .int .i64 q ∧ Hid (Own w (mks true (beg big) ls j ++ lpt true (beg big) j st q) N b cc wq)) (fun u i _ => st.size - (RowKit.intOf i).toNat)
        case atStart => exact ⟨0, _, b, cc, Nat.zero_le _, rfl, rfl, HI⟩
        case round =>
          obtain ⟨q, N, b, cc, hqn, rfl, rfl, HW⟩ := hrel
          by_cases hqs : q < st.size
          · have hLb : N ≤ 2000000 := by
              have h5 := HW.out.1
              obtain ⟨r, hr⟩ := mks_cut (e := true) (pr := beg big) (ls := ls) (n := ls.length) (i := j) (by omega)
              have h3 := HTZ.out
              rw [hr, ← HST.out, List.length_append, List.length_append] at h3
              have h4 : (lpt true (beg big) j st q).length ≤ st.size + 1 := lpt_length hqn
              rw [List.length_append] at h5; omega
            have h1 := fun W => of5_any ((st[q]'hqs).toNat) big W
            rw [kl_at] at h1
            have hbd : beg big st q = (decide (kl st big q ≠ 0) && (decide (q = 0) || decide (kl st big (q - 1) ≠ kl st big q))) := rfl
            by_cases h0 : kl st big q = 0
            · have hbq : beg big st q = false := by rw [hbd, h0]; rfl
              rw [h0] at h1
              clear hbd h0
              have HN := Lib.hid (lpt_no (e := true) (i := j) hbq)
              clear hbq
              go_wp2_with fail
              refine (h1 _).mono ?_
              rintro e w' ⟨rfl, rfl⟩
              clear h1
              go_wp2
              go_roundw
              case rel => exact ⟨q + 1, N, b, cc, by omega, rfl, by go_num, by rw [HN.out]; exact HW⟩
              case measure => simp [RowKit.intOf]; omega
            · have a0 : (kl st big q == 0) = false := by rw [beq_eq_false_iff_ne]; exact h0
              have a1 : (kl st big q != 0) = true := by rw [bne_iff_ne]; exact h0
              by_cases hq0 : q = 0
              · have hbq : beg big st q = true := by rw [hbd, decide_eq_true h0, decide_eq_true hq0]; rfl
                have b0 : ((q : Int) == 0) = true := by rw [beq_iff_eq]; omega
                generalize kl st big q = A at *
                clear hbd h0 hq0
                have HN := Lib.hid (lpt_yes (e := true) (i := j) hbq)
                clear hbq
                go_wp2_with fail
                refine (h1 _).mono ?_
                rintro e w' ⟨rfl, rfl⟩
                clear h1
                go_wp2_with (at_builtin; go_must (refine append_srcv _ rfl _ _ 25 rfl w.heap.size EP i0 (.agg #[.int .i64 0, .int .i64 0]) 2 16 underP hi0 hz0 hz1' hz2' rfl (by decide) (.slice b N cc) _ _ rfl (HW.out.built _) (.slice (some ⟨wr.heap.size, 0, none⟩) 1 1) 1 [.int .i64 (j : Int), .int .i64 (q : Int)] rfl (SrcV.pos wr (j : Int) (q : Int)) (by simp only [maxLen]; omega) (by omega) (by have := HW.out.2.2.size; simp; omega) ?_); intro ob oc V hown hg hnr; have HO := Lib.hid (HW.out.app (x := (j, q)) hown hg); clear hown hg hnr)
                go_roundw
                case rel => exact ⟨q + 1, N + 1, ob, oc, by omega, rfl, by go_num, by rw [HN.out, ← List.append_assoc]; exact HO.out⟩
                case measure => simp [RowKit.intOf]; omega
              · obtain ⟨k, hkj⟩ : ∃ k, k = q - 1 := ⟨_, rfl⟩
                have hks : k < st.size := by omega
                have hw : IntKind.i64.wrap ((q : Int) - 1) = (k : Int) := by rw [IntKind.wrap_i64]; omega
                have b0 : ((q : Int) == 0) = false := by rw [beq_eq_false_iff_ne]; omega
                have h2 := fun W => of5_any ((st[k]'hks).toNat) big W
                rw [kl_at] at h2
                rw [decide_eq_true h0, decide_eq_false hq0, ← hkj] at hbd
                generalize kl st big q = A at *
                generalize kl st big k = B at *
                by_cases hAB : B = A
                · subst hAB
                  have hbq : beg big st q = false := by rw [hbd]; simp
                  clear hbd h0 hq0 hkj
                  have HN := Lib.hid (lpt_no (e := true) (i := j) hbq)
                  clear hbq
                  go_wp2_with fail
                  refine (h1 _).mono ?_
                  rintro e w' ⟨rfl, rfl⟩
                  clear h1
                  go_wp2_with fail
                  refine (h2 _).mono ?_
                  rintro e w' ⟨rfl, rfl⟩
                  clear h2
                  go_wp2
                  go_roundw
                  case rel => exact ⟨q + 1, N, b, cc, by omega, rfl, by go_num, by rw [HN.out]; exact HW⟩
                  case measure => simp [RowKit.intOf]; omega
                · have hbq : beg big st q = true := by rw [hbd]; simp [hAB]
                  have ab : (B == A) = false := by rw [beq_eq_false_iff_ne]; exact hAB
                  have ab1 : (B != A) = true := by rw [bne_iff_ne]; exact hAB
                  clear hbd h0 hq0 hkj hAB
                  have HN := Lib.hid (lpt_yes (e := true) (i := j) hbq)
                  clear hbq
                  go_wp2_with fail
                  refine (h1 _).mono ?_
                  rintro e w' ⟨rfl, rfl⟩
                  clear h1
                  go_wp2_with fail
                  refine (h2 _).mono ?_
                  rintro e w' ⟨rfl, rfl⟩
                  clear h2
                  go_wp2_with (at_builtin; go_must (refine append_srcv _ rfl _ _ 25 rfl w.heap.size EP i0 (.agg #[.int .i64 0, .int .i64 0]) 2 16 underP hi0 hz0 hz1' hz2' rfl (by decide) (.slice b N cc) _ _ rfl (HW.out.built _) (.slice (some ⟨wr.heap.size, 0, none⟩) 1 1) 1 [.int .i64 (j : Int), .int .i64 (q : Int)] rfl (SrcV.pos wr (j : Int) (q : Int)) (by simp only [maxLen]; omega) (by omega) (by have := HW.out.2.2.size; simp; omega) ?_); intro ob oc V hown hg hnr; have HO := Lib.hid (HW.out.app (x := (j, q)) hown hg); clear hown hg hnr)
                  go_roundw
                  case rel => exact ⟨q + 1, N + 1, ob, oc, by omega, rfl, by go_num, by rw [HN.out, ← List.append_assoc]; exact HO.out⟩
                  case measure => simp [RowKit.intOf]; omega
          · obtain rfl : q = st.size := by omega
            go_wp2
            go_roundw
            case rel => exact ⟨j + 1, N, b, cc, by omega, rfl, by go_num, by rw [mks_succ, ← HST.out]; exact HW⟩
            case measure => simp [RowKit.intOf]; omega
      · have he := empty_of_pos (x := st) (by omega)
        have HI : Hid (Own w (mks true (beg big) ls j ++ lpt true (beg big) j st 0) N b cc wr) := by rw [lpt_zero (by omega), List.append_nil]; exact HW
        clear hz hstz2 HW
        go_wp2
        clear he c3
        go_loopw [5, 8] (fun u i wq => ∃ (q N : Nat) (b : Option Addr) (cc : Nat), q ≤ st.size ∧ u = .slice b N cc ∧ i = .int .i64 q ∧ Hid (Own w (mks true (beg big) ls j ++ lpt true (beg big) j st q) N b cc wq)) (fun u i _ => st.size - (RowKit.intOf i).toNat)
        case atStart => exact ⟨0, _, b, cc, Nat.zero_le _, rfl, rfl, HI⟩
        case round =>
          obtain ⟨q, N, b, cc, hqn, rfl, rfl, HW⟩ := hrel
          by_cases hqs : q < st.size
          · have hLb : N ≤ 2000000 := by
              have h5 := HW.out.1
              obtain ⟨r, hr⟩ := mks_cut (e := true) (pr := beg big) (ls := ls) (n := ls.length) (i := j) (by omega)
              have h3 := HTZ.out
              rw [hr, ← HST.out, List.length_append, List.length_append] at h3
              have h4 : (lpt true (beg big) j st q).length ≤ st.size + 1 := lpt_length hqn
              rw [List.length_append] at h5; omega
            have h1 := fun W => of5_any ((st[q]'hqs).toNat) big W
            rw [kl_at] at h1
            have hbd : beg big st q = (decide (kl st big q ≠ 0) && (decide (q = 0) || decide (kl st big (q - 1) ≠ kl st big q))) := rfl
            by_cases h0 : kl st big q = 0
            · have hbq : beg big st q = false := by rw [hbd, h0]; rfl
              rw [h0] at h1
              clear hbd h0
              have HN := Lib.hid (lpt_no (e := true) (i := j) hbq)
              clear hbq
              go_wp2_with fail
              refine (h1 _).mono ?_
              rintro e w' ⟨rfl, rfl⟩
              clear h1
              go_wp2
              go_roundw
              case rel => exact ⟨q + 1, N, b, cc, by omega, rfl, by go_num, by rw [HN.out]; exact HW⟩
              case measure => simp [RowKit.intOf]; omega
            · have a0 : (kl st big q == 0) = false := by rw [beq_eq_false_iff_ne]; exact h0
              have a1 : (kl st big q != 0) = true := by rw [bne_iff_ne]; exact h0
              by_cases hq0 : q = 0
              · have hbq : beg big st q = true := by rw [hbd, decide_eq_true h0, decide_eq_true hq0]; rfl
                have b0 : ((q : Int) == 0) = true := by rw [beq_iff_eq]; omega
                generalize kl st big q = A at *
                clear hbd h0 hq0
                have HN := Lib.hid (lpt_yes (e := true) (i := j) hbq)
                clear hbq
                go_wp2_with fail
                refine (h1 _).mono ?_
                rintro e w' ⟨rfl, rfl⟩
                clear h1
                go_wp2_with (at_builtin; go_must (refine append_srcv _ rfl _ _ 25 rfl w.heap.size EP i0 (.agg #[.int .i64 0, .int .i64 0]) 2 16 underP hi0 hz0 hz1' hz2' rfl (by decide) (.slice b N cc) _ _ rfl (HW.out.built _) (.slice (some ⟨wr.heap.size, 0, none⟩) 1 1) 1 [.int .i64 (j : Int), .int .i64 (q : Int)] rfl (SrcV.pos wr (j : Int) (q : Int)) (by simp only [maxLen]; omega) (by omega) (by have := HW.out.2.2.size; simp; omega) ?_); intro ob oc V hown hg hnr; have HO := Lib.hid (HW.out.app (x := (j, q)) hown hg); clear hown hg hnr)
                go_roundw
                case rel => exact ⟨q + 1, N + 1, ob, oc, by omega, rfl, by go_num, by rw [HN.out, ← List.append_assoc]; exact HO.out⟩
                case measure => simp [RowKit.intOf]; omega
              · obtain ⟨k, hkj⟩ : ∃ k, k = q - 1 := ⟨_, rfl⟩
                have hks : k < st.size := by omega
                have hw : IntKind.i64.wrap ((q : Int) - 1) = (k : Int) := by rw [IntKind.wrap_i64]; omega
                have b0 : ((q : Int) == 0) = false := by rw [beq_eq_false_iff_ne]; omega
                have h2 := fun W => of5_any ((st[k]'hks).toNat) big W
                rw [kl_at] at h2
                rw [decide_eq_true h0, decide_eq_false hq0, ← hkj] at hbd
                generalize kl st big q = A at *
                generalize kl st big k = B at *
                by_cases hAB : B = A
                · subst hAB
                  have hbq : beg big st q = false := by rw [hbd]; simp
                  clear hbd h0 hq0 hkj
                  have HN := Lib.hid (lpt_no (e := true) (i := j) hbq)
                  clear hbq
                  go_wp2_with fail
                  refine (h1 _).mono ?_
                  rintro e w' ⟨rfl, rfl⟩
                  clear h1
                  go_wp2_with fail
                  refine (h2 _).mono ?_
                  rintro e w' ⟨rfl, rfl⟩
                  clear h2
                  go_wp2
                  go_roundw
                  case rel => exact ⟨q + 1, N, b, cc, by omega, rfl, by go_num, by rw [HN.out]; exact HW⟩
                  case measure => simp [RowKit.intOf]; omega
                · have hbq : beg big st q = true := by rw [hbd]; simp [hAB]
                  have ab : (B == A) = false := by rw [beq_eq_false_iff_ne]; exact hAB
                  have ab1 : (B != A) = true := by rw [bne_iff_ne]; exact hAB
                  clear hbd h0 hq0 hkj hAB
                  have HN := Lib.hid (lpt_yes (e := true) (i := j) hbq)
                  clear hbq
                  go_wp2_with fail
                  refine (h1 _).mono ?_
                  rintro e w' ⟨rfl, rfl⟩
                  clear h1
                  go_wp2_with fail
                  refine (h2 _).mono ?_
                  rintro e w' ⟨rfl, rfl⟩
                  clear h2
                  go_wp2_with (at_builtin; go_must (refine append_srcv _ rfl _ _ 25 rfl w.heap.size EP i0 (.agg #[.int .i64 0, .int .i64 0]) 2 16 underP hi0 hz0 hz1' hz2' rfl (by decide) (.slice b N cc) _ _ rfl (HW.out.built _) (.slice (some ⟨wr.heap.size, 0, none⟩) 1 1) 1 [.int .i64 (j : Int), .int .i64 (q : Int)] rfl (SrcV.pos wr (j : Int) (q : Int)) (by simp only [maxLen]; omega) (by omega) (by have := HW.out.2.2.size; simp; omega) ?_); intro ob oc V hown hg hnr; have HO := Lib.hid (HW.out.app (x := (j, q)) hown hg); clear hown hg hnr)
                  go_roundw
                  case rel => exact ⟨q + 1, N + 1, ob, oc, by omega, rfl, by go_num, by rw [HN.out, ← List.append_assoc]; exact HO.out⟩
                  case measure => simp [RowKit.intOf]; omega
          · obtain rfl : q = st.size := by omega
            go_wp2
            go_roundw
            case rel => exact ⟨j + 1, N, b, cc, by omega, rfl, by go_num, by rw [mks_succ, ← HST.out]; exact HW⟩
            case measure => simp [RowKit.intOf]; omega
    · obtain rfl : j = n := by omega
      go_wp2
      go_ret
      have hq := HW.out
      rw [hlen, hq.1]
      exact ⟨b, cc, rfl, hq.ps, hq.2.2⟩

set_option maxHeartbeats 4000000 in
theorem ends5_any (a : Option Addr) (n c : Nat) (ls : List ByteArray) (big : Bool) (w : World) (h : Ss w a n c ls) (hs : ∀ s ∈ ls, s.size ≤ 140737488355328) (htz : tz ls ≤ 900000) :
    Calls Try.prog 14 #[.slice a n c, .bool big] w fun e w' => ∃ b cc, e = .returned (.slice b (eds big ls).length cc) ∧ Ps w' b (eds big ls).length cc (eds big ls) ∧ Below w.heap.size w w' := by
  have hn := h.le63
  have hlen := h.length
  obtain ⟨i0, hi0, hz0, hz1', hz2'⟩ := info_parts infoP
  have HTZ := Lib.hid (show (mks false (fin big) ls ls.length).length ≤ 900000 from Nat.le_trans (mks_tz _ _ _) htz)
  unfold eds
  go_enter Try.func14, Try.ntmps14
  go_wp2
  go_loopw [5, 6] (fun u i wr => ∃ (j N : Nat) (b : Option Addr) (cc : Nat), j ≤ n ∧ u = .slice b N cc ∧ i = .int .i64 j ∧ Hid (Own w (mks false (fin big) ls j) N b cc wr)) (fun u i _ => n - (RowKit.intOf i).toNat)
  case atStart => exact ⟨0, 0, none, 0, Nat.zero_le _, rfl, rfl, Own.nil w⟩
  case round =>
    obtain ⟨j, N, b, cc, hjn, rfl, rfl, HW⟩ := hrel
    by_cases hkn : j < n
    · obtain ⟨ba, o, rfl, hcx, hnc, _⟩ := h.read j (by omega)
      have hlt := lineAt_get (ls := ls) (k := j) (by omega)
      have hstz := hs (ls[j]'(by omega)) (List.getElem_mem (by omega))
      have hstz2 := tz_mem ls (ls[j]'(by omega)) (List.getElem_mem (by omega))
      have c3 := cell_later HW.out.2.2 hcx
      rw [← hlt] at c3 hstz hstz2
      obtain ⟨st, hst⟩ : ∃ st, st = lineAt ls j := ⟨_, rfl⟩
      rw [← hst] at c3 hstz hstz2
      have hst9 : st.size ≤ 900000 := by omega
      have HST := Lib.hid hst
      have HH := Lib.hid h
      clear hcx hlt hst h
      have HI : Hid (Own w (mks false (fin big) ls j ++ lpt false (fin big) j st 0) N b cc wr) := by rw [lpt_none, List.append_nil]; exact HW
      clear HW hstz2
      go_wp2
      clear c3
      go_loopw [5, 8] (fun u i wq => ∃ (q N : Nat) (b : Option Addr) (cc : Nat), q ≤ st.size ∧ u = .slice b N cc ∧ i = .int .i64 q ∧ Hid (Own w (mks false (fin big) ls j ++ lpt false (fin big) j st q) N b cc wq)) (fun u i _ => st.size - (RowKit.intOf i).toNat)
      case atStart => exact ⟨0, _, b, cc, Nat.zero_le _, rfl, rfl, HI⟩
      case round =>
        obtain ⟨q, N, b, cc, hqn, rfl, rfl, HW⟩ := hrel
        by_cases hqs : q < st.size
        · have hLb : N ≤ 2000000 := by
            have h5 := HW.out.1
            obtain ⟨r, hr⟩ := mks_cut (e := false) (pr := fin big) (ls := ls) (n := ls.length) (i := j) (by omega)
            have h3 := HTZ.out
            rw [hr, ← HST.out, List.length_append, List.length_append] at h3
            have h4 : (lpt false (fin big) j st q).length ≤ st.size + 1 := lpt_length hqn
            rw [List.length_append] at h5; omega
          have h1 := fun W => of5_any ((st[q]'hqs).toNat) big W
          rw [kl_at] at h1
          have hbd : fin big st q = (decide (kl st big q ≠ 0) && (decide (q + 1 = st.size) || decide (kl st big (q + 1) ≠ kl st big q))) := rfl
          by_cases h0 : kl st big q = 0
          · have hbq : fin big st q = false := by rw [hbd, h0]; rfl
            rw [h0] at h1
            clear hbd h0
            have HN := Lib.hid (lpt_no (e := false) (i := j) hbq)
            clear hbq
            go_wp2_with fail
            refine (h1 _).mono ?_
            rintro e w' ⟨rfl, rfl⟩
            clear h1
            go_wp2
            go_roundw
            case rel => exact ⟨q + 1, N, b, cc, by omega, rfl, by go_num, by rw [HN.out]; exact HW⟩
            case measure => simp [RowKit.intOf]; omega
          · have a0 : (kl st big q == 0) = false := by rw [beq_eq_false_iff_ne]; exact h0
            have a1 : (kl st big q != 0) = true := by rw [bne_iff_ne]; exact h0
            by_cases hq0 : q + 1 = st.size
            · have hbq : fin big st q = true := by rw [hbd, decide_eq_true h0, decide_eq_true hq0]; rfl
              have hwz : IntKind.i64.wrap ((st.size : Int) - 1) = (st.size : Int) - 1 := by rw [IntKind.wrap_i64]; omega
              have b0 : ((q : Int) == (st.size : Int) - 1) = true := by rw [beq_iff_eq]; omega
              generalize kl st big q = A at *
              clear hbd h0 hq0
              have HN := Lib.hid (lpt_yes (e := false) (i := j) hbq)
              clear hbq
              go_wp2_with fail
              refine (h1 _).mono ?_
              rintro e w' ⟨rfl, rfl⟩
              clear h1
              go_wp2_with (at_builtin; go_must (refine append_srcv _ rfl _ _ 25 rfl w.heap.size EP i0 (.agg #[.int .i64 0, .int .i64 0]) 2 16 underP hi0 hz0 hz1' hz2' rfl (by decide) (.slice b N cc) _ _ rfl (HW.out.built _) (.slice (some ⟨wr.heap.size, 0, none⟩) 1 1) 1 [.int .i64 (j : Int), .int .i64 (q : Int)] rfl (SrcV.pos wr (j : Int) (q : Int)) (by simp only [maxLen]; omega) (by omega) (by have := HW.out.2.2.size; simp; omega) ?_); intro ob oc V hown hg hnr; have HO := Lib.hid (HW.out.app (x := (j, q)) hown hg); clear hown hg hnr)
              go_roundw
              case rel => exact ⟨q + 1, N + 1, ob, oc, by omega, rfl, by go_num, by rw [HN.out, ← List.append_assoc]; exact HO.out⟩
              case measure => simp [RowKit.intOf]; omega
            · obtain ⟨k, hkj⟩ : ∃ k, k = q + 1 := ⟨_, rfl⟩
              have HKJ := Lib.hid hkj
              have hks : k < st.size := by omega
              have hw : IntKind.i64.wrap ((q : Int) + 1) = (k : Int) := by rw [IntKind.wrap_i64]; omega
              have hwz : IntKind.i64.wrap ((st.size : Int) - 1) = (st.size : Int) - 1 := by rw [IntKind.wrap_i64]; omega
              have b0 : ((q : Int) == (st.size : Int) - 1) = false := by rw [beq_eq_false_iff_ne]; omega
              have h2 := fun W => of5_any ((st[k]'hks).toNat) big W
              rw [kl_at] at h2
              rw [decide_eq_true h0, decide_eq_false hq0, ← hkj] at hbd
              generalize kl st big q = A at *
              generalize kl st big k = B at *
              by_cases hAB : B = A
              · subst hAB
                have hbq : fin big st q = false := by rw [hbd]; simp
                clear hbd h0 hq0 hkj
                have HN := Lib.hid (lpt_no (e := false) (i := j) hbq)
                clear hbq
                go_wp2_with fail
                refine (h1 _).mono ?_
                rintro e w' ⟨rfl, rfl⟩
                clear h1
                go_wp2_with fail
                refine (h2 _).mono ?_
                rintro e w' ⟨rfl, rfl⟩
                clear h2
                go_wp2
                go_roundw
                case rel => (have hk := HKJ.out; subst hk); exact ⟨q + 1, N, b, cc, by omega, rfl, by go_num, by rw [HN.out]; exact HW⟩
                case measure => (have hk := HKJ.out; subst hk); simp [RowKit.intOf]; omega
              · have hbq : fin big st q = true := by rw [hbd]; simp [hAB]
                have ab : (B == A) = false := by rw [beq_eq_false_iff_ne]; exact hAB
                have ab1 : (B != A) = true := by rw [bne_iff_ne]; exact hAB
                clear hbd h0 hq0 hkj hAB
                have HN := Lib.hid (lpt_yes (e := false) (i := j) hbq)
                clear hbq
                go_wp2_with fail
                refine (h1 _).mono ?_
                rintro e w' ⟨rfl, rfl⟩
                clear h1
                go_wp2_with fail
                refine (h2 _).mono ?_
                rintro e w' ⟨rfl, rfl⟩
                clear h2
                go_wp2_with (at_builtin; go_must (refine append_srcv _ rfl _ _ 25 rfl w.heap.size EP i0 (.agg #[.int .i64 0, .int .i64 0]) 2 16 underP hi0 hz0 hz1' hz2' rfl (by decide) (.slice b N cc) _ _ rfl (HW.out.built _) (.slice (some ⟨wr.heap.size, 0, none⟩) 1 1) 1 [.int .i64 (j : Int), .int .i64 (q : Int)] rfl (SrcV.pos wr (j : Int) (q : Int)) (by simp only [maxLen]; omega) (by omega) (by have := HW.out.2.2.size; simp; omega) ?_); intro ob oc V hown hg hnr; have HO := Lib.hid (HW.out.app (x := (j, q)) hown hg); clear hown hg hnr)
                go_roundw
                case rel => (have hk := HKJ.out; subst hk); exact ⟨q + 1, N + 1, ob, oc, by omega, rfl, by go_num, by rw [HN.out, ← List.append_assoc]; exact HO.out⟩
                case measure => (have hk := HKJ.out; subst hk); simp [RowKit.intOf]; omega
        · obtain rfl : q = st.size := by omega
          go_wp2
          go_roundw
          case rel => exact ⟨j + 1, N, b, cc, by omega, rfl, by go_num, by rw [mks_succ, ← HST.out]; exact HW⟩
          case measure => simp [RowKit.intOf]; omega
    · obtain rfl : j = n := by omega
      go_wp2
      go_ret
      have hq := HW.out
      rw [hlen, hq.1]
      exact ⟨b, cc, rfl, hq.ps, hq.2.2⟩

end Go.Proofs.Ytdgckgfbdplnpaa.Wd
