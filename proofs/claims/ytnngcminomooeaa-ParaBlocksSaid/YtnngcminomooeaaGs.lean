/-
  Package para's Sentences, and the document's.
-/
import Derived.Test.YtnngcminomooeaaGi
import Derived.Test.YtnngcminomooeaaZz
set_option linter.unusedVariables false
set_option linter.unusedSimpArgs false
set_option maxRecDepth 100000
namespace Go.Proofs.Ytnngcminomooeaa.Pa
open Go Go.RowKit Go.Proofs.Ytnngcminomooeaa.Vk Go.Proofs.Ytnngcminomooeaa.Str Go.Proofs.Ytnngcminomooeaa.Ln Go.Proofs.Ytnngcminomooeaa.Cl Go.Proofs.Ytnngcminomooeaa.Mv Go.Proofs.Ytnngcminomooeaa.Wd
attribute [local go_sem] Oper.semAt_some

theorem Sentences_tells (a : Option Addr) (n c : Nat) (ls : List ByteArray) (w : World) (h : Ss w a n c ls) (hs : ∀ s ∈ ls, s.size ≤ 140737488355328) (hn : n ≤ 1000000) : Calls Try.prog 37 #[.slice a n c] w fun e w' =>
    ∃ v, e = .returned v ∧ Tells w' v 0 (sen ls) ∧ Below w.heap.size w w' := by
  have h1 := clone_any a n c ls w h hn
  go_enter Try.func37, Try.ntmps37
  go_wp2_with fail
  refine h1.mono ?_
  rintro e w1 ⟨b, cc, rfl, hs1, hb1⟩
  have h2 := sentences_tells b n cc ls w1 hs1 hs
  have HB := Lib.hid hb1
  clear h1 hs1 hb1 h
  go_wp2_with fail
  refine h2.mono ?_
  rintro e w2 ⟨v, rfl, ht, hb2⟩
  have HT := Lib.hid ht
  have HB2 := Lib.hid (below_on HB.out hb2)
  clear h2 ht hb2
  go_wp2
  go_ret
  exact ⟨v, rfl, HT.out, HB2.out⟩

theorem sns_e1 {ls : List ByteArray} {j : Nat} (h : (lineAt ls j).size = 0) (ho : op ls j = true) : sns ls (j + 1) = sns ls j ++ [(j, 0)] := by
  rw [sns_next rfl ho.symm, h, lpt_empty h]
theorem sns_e0 {ls : List ByteArray} {j : Nat} (h : (lineAt ls j).size = 0) (ho : op ls j = false) : sns ls (j + 1) = sns ls j := by
  rw [sns_next rfl ho.symm, h, lpt_none, List.append_nil]
theorem sns_room {ls : List ByteArray} {j : Nat} {T : Nat} (hj : j < ls.length) (h : (sns ls ls.length).length ≤ T) : (sns ls j).length ≤ T := by
  obtain ⟨r, hr⟩ := sns_cut (ls := ls) (n := ls.length) hj
  rw [hr, List.length_append, List.length_append] at h
  omega

set_option maxHeartbeats 8000000 in
theorem sentences5_any (a : Option Addr) (n c : Nat) (ls : List ByteArray) (w : World) (h : Ss w a n c ls) (hs : ∀ s ∈ ls, s.size ≤ 140737488355328) (htz : tz ls ≤ 900000) :
    Calls Try.prog 33 #[.slice a n c] w fun e w' => ∃ b N cc, e = .returned (.slice b N cc) ∧ Ps w' b N cc (sen ls) ∧ Below w.heap.size w w' := by
  have hn := h.le63
  have hlen := h.length
  obtain ⟨i0, hi0, hz0, hz1', hz2'⟩ := info_parts infoP
  have HTZ := Lib.hid (show (sns ls ls.length).length ≤ 900000 from Nat.le_trans (sen_tz _) htz)
  unfold sen
  go_enter Try.func33, Try.ntmps33
  go_wp2
  go_loopw [3, 4, 5] (fun u v i wr => ∃ (j N : Nat) (b : Option Addr) (cc : Nat), j ≤ n ∧ u = .slice b N cc ∧ v = .bool (fr ls j) ∧ i = .int .i64 j ∧ Hid (Wd.Own w (sns ls j) N b cc wr)) (fun u v i _ => n - (RowKit.intOf i).toNat)
  case atStart => exact ⟨0, 0, none, 0, Nat.zero_le _, rfl, rfl, rfl, Wd.Own.nil w⟩
  case round =>
    obtain ⟨j, N, b, cc, hjn, rfl, rfl, rfl, HW⟩ := hrel
    by_cases hkn : j < n
    · obtain ⟨ba, o, rfl, hcx, hnc, _⟩ := h.read j (by omega)
      have hlx := lineAt_get (ls := ls) (k := j) (by omega)
      have hstz := hs (ls[j]'(by omega)) (List.getElem_mem (by omega))
      have c3 := cell_later HW.out.2.2 hcx
      rw [← hlx] at c3 hstz
      clear hcx
      by_cases hz : (lineAt ls j).size = 0
      · have hx := empty_of_zero hz
        obtain ⟨F, hF⟩ : ∃ F, F = fr ls j := ⟨_, rfl⟩
        rw [← hF]
        clear hF
        by_cases hj0 : j = 0
        · have hop : op ls j = true := by rw [op_empty hz, decide_eq_true hj0]; rfl
          have b0 : ((j : Int) == 0) = true := by rw [beq_iff_eq]; omega
          clear hj0 hlx h
          have hLb : N ≤ 2000000 := by
            have h5 := HW.out.1
            have h6 := sns_room (ls := ls) (j := j) (by omega) HTZ.out
            omega
          have HE := Lib.hid (And.intro (sns_e1 hz hop) (fr_empty hz))
          clear hz hop
          go_wp2_with (at_builtin; go_must (refine append_srcv _ rfl _ _ 39 rfl w.heap.size EP i0 (.agg #[.int .i64 0, .int .i64 0]) 2 16 underP hi0 hz0 hz1' hz2' rfl (by decide) (.slice b N cc) _ _ rfl (HW.out.built _) (.slice (some ⟨wr.heap.size, 0, none⟩) 1 1) 1 [.int .i64 (j : Int), .int .i64 0] rfl (SrcV.pos wr (j : Int) 0) (by simp only [maxLen]; omega) (by omega) (by have := HW.out.2.2.size; simp; omega) ?_); intro ob oc V hown hg hnr; have HO := Lib.hid (HW.out.app (x := (j, 0)) hown hg); clear hown hg hnr)
          go_roundw
          case rel => exact ⟨j + 1, N + 1, ob, oc, by omega, rfl, by rw [HE.out.2], by go_num, by rw [HE.out.1]; exact HO⟩
          case measure => simp [RowKit.intOf] <;> omega
        · have b0 : ((j : Int) == 0) = false := by rw [beq_eq_false_iff_ne]; omega
          obtain ⟨k, hk⟩ : ∃ k, j = k + 1 := ⟨j - 1, by omega⟩
          obtain ⟨b', o', he', hcy, _, _⟩ := h.read k (by omega)
          obtain ⟨rfl, rfl⟩ : b' = ba ∧ o' = o := by
            injection he' with he'
            injection he' with h1 h2
            exact ⟨h1.symm, h2.symm⟩
          have c4 := cell_later HW.out.2.2 hcy
          rw [← lineAt_get (ls := ls) (k := k) (by omega)] at c4
          have hw : IntKind.i64.wrap ((j : Int) - 1) = (k : Int) := by rw [IntKind.wrap_i64]; omega
          have hkk : k < n := by omega
          by_cases hy : (lineAt ls k).size = 0
          · have hey := empty_of_zero hy
            have hop : op ls j = false := by rw [op_empty hz, hk, show k + 1 - 1 = k by omega, decide_eq_false (by omega), decide_eq_false (by omega)]; rfl
            clear hj0 hlx h he' hcy hy hk
            have HE := Lib.hid (And.intro (sns_e0 hz hop) (fr_empty hz))
            clear hz hop
            go_wp2
            go_roundw
            case rel => exact ⟨j + 1, N, b, cc, by omega, rfl, by rw [HE.out.2], by go_num, by rw [HE.out.1]; exact HW⟩
            case measure => simp [RowKit.intOf] <;> omega
          · have hey := empty_of_pos (x := lineAt ls k) (by omega)
            have hop : op ls j = true := by rw [op_empty hz, hk, show k + 1 - 1 = k by omega, decide_eq_false (by omega), decide_eq_true (by omega)]; rfl
            clear hj0 hlx h he' hcy hy hk
            have hLb : N ≤ 2000000 := by
              have h5 := HW.out.1
              have h6 := sns_room (ls := ls) (j := j) (by omega) HTZ.out
              omega
            have HE := Lib.hid (And.intro (sns_e1 hz hop) (fr_empty hz))
            clear hz hop
            go_wp2_with (at_builtin; go_must (refine append_srcv _ rfl _ _ 39 rfl w.heap.size EP i0 (.agg #[.int .i64 0, .int .i64 0]) 2 16 underP hi0 hz0 hz1' hz2' rfl (by decide) (.slice b N cc) _ _ rfl (HW.out.built _) (.slice (some ⟨wr.heap.size, 0, none⟩) 1 1) 1 [.int .i64 (j : Int), .int .i64 0] rfl (SrcV.pos wr (j : Int) 0) (by simp only [maxLen]; omega) (by omega) (by have := HW.out.2.2.size; simp; omega) ?_); intro ob oc V hown hg hnr; have HO := Lib.hid (HW.out.app (x := (j, 0)) hown hg); clear hown hg hnr)
            go_roundw
            case rel => exact ⟨j + 1, N + 1, ob, oc, by omega, rfl, by rw [HE.out.2], by go_num, by rw [HE.out.1]; exact HO⟩
            case measure => simp [RowKit.intOf] <;> omega
      · have hx := empty_of_pos (x := lineAt ls j) (by omega)
        obtain ⟨st, hst⟩ : ∃ st, st = lineAt ls j := ⟨_, rfl⟩
        rw [← hst] at c3 hstz hx hz
        have hst9 : st.size ≤ 900000 := by
          have := tz_mem ls (ls[j]'(by omega)) (List.getElem_mem (by omega))
          rw [← hlx, ← hst] at this
          omega
        obtain ⟨d, hd⟩ : ∃ d, d = op ls j := ⟨_, rfl⟩
        have hfr : fr ls j = d := by rw [hd]; exact (op_full (by rw [← hst]; omega)).symm
        rw [hfr]
        have HNX := Lib.hid (sns_next hst hd)
        have HFR := Lib.hid (show fr ls (j + 1) = stopd st by rw [hst]; exact fr_full (by rw [← hst]; omega))
        have HST := Lib.hid hst
        have HROOM := Lib.hid (sns_room (ls := ls) (j := j) (by omega) HTZ.out)
        have HI : Hid (Wd.Own w (sns ls j ++ lpt d (sb d) j st 0) N b cc wr) := by rw [lpt_zero (by omega), List.append_nil]; exact HW
        clear hd hfr hst hz HW hlx h
        go_wp2
        clear hx c3
        go_loopw [3, 4, 7] (fun u v i wq => ∃ (q N : Nat) (b : Option Addr) (cc : Nat), q ≤ st.size ∧ u = .slice b N cc ∧ v = .bool (due st d q) ∧ i = .int .i64 q ∧ Hid (Wd.Own w (sns ls j ++ lpt d (sb d) j st q) N b cc wq)) (fun u v i _ => st.size - (RowKit.intOf i).toNat)
        case atStart => exact ⟨0, N, b, cc, Nat.zero_le _, rfl, rfl, rfl, HI⟩
        case round =>
          clear HI
          obtain ⟨q, N, b, cc, hqn, rfl, rfl, rfl, HW⟩ := hrel
          by_cases hqs : q < st.size
          · have h1 := fun W => of5_any ((st[q]'hqs).toNat) true W
            rw [kl_at] at h1
            have hsp := fun W => stop5_any st q W hqs hstz
            by_cases h0 : kl st true q = 0
            · have HN := Lib.hid (And.intro (lpt_no (e := d) (i := j) (sb_blank (d := d) h0)) (due_skip (d := d) h0))
              rw [h0] at h1
              clear h0 hsp
              obtain ⟨D, hD⟩ : ∃ D, D = due st d q := ⟨_, rfl⟩
              rw [← hD]
              have HD := Lib.hid hD
              clear hD
              go_wp2_with fail
              refine (h1 _).mono ?_
              rintro e w' ⟨rfl, rfl⟩
              clear h1
              go_wp2
              go_roundw
              case rel => exact ⟨q + 1, N, b, cc, by omega, rfl, by rw [HN.out.2, HD.out], by go_num, by rw [HN.out.1]; exact HW⟩
              case measure => simp [RowKit.intOf] <;> omega
            · have a0 : (kl st true q == 0) = false := by rw [beq_eq_false_iff_ne]; exact h0
              have hds := due_set (d := d) h0
              cases hdu : due st d q
              · have HN := Lib.hid (And.intro (lpt_no (e := d) (i := j) ((sb_due h0).trans hdu)) hds)
                clear h0 hds hdu
                generalize kl st true q = A at *
                go_wp2_with fail
                refine (h1 _).mono ?_
                rintro e w' ⟨rfl, rfl⟩
                clear h1
                go_wp2_with fail
                refine (hsp _).mono ?_
                rintro e w' ⟨rfl, rfl⟩
                clear hsp
                go_wp2
                go_roundw
                case rel => exact ⟨q + 1, N, b, cc, by omega, rfl, by rw [HN.out.2], by go_num, by rw [HN.out.1]; exact HW⟩
                case measure => simp [RowKit.intOf] <;> omega
              · have HN := Lib.hid (And.intro (lpt_yes (e := d) (i := j) ((sb_due h0).trans hdu)) hds)
                have hLb : N ≤ 2000000 := by
                  have h5 := HW.out.1
                  have h6 := HROOM.out
                  have h4 : (lpt d (sb d) j st q).length ≤ st.size + 1 := lpt_length hqn
                  rw [List.length_append] at h5
                  omega
                clear h0 hds hdu
                generalize kl st true q = A at *
                go_wp2_with fail
                refine (h1 _).mono ?_
                rintro e w' ⟨rfl, rfl⟩
                clear h1
                go_wp2_with (at_builtin; go_must (refine append_srcv _ rfl _ _ 39 rfl w.heap.size EP i0 (.agg #[.int .i64 0, .int .i64 0]) 2 16 underP hi0 hz0 hz1' hz2' rfl (by decide) (.slice b N cc) _ _ rfl (HW.out.built _) (.slice (some ⟨wr.heap.size, 0, none⟩) 1 1) 1 [.int .i64 (j : Int), .int .i64 (q : Int)] rfl (SrcV.pos wr (j : Int) (q : Int)) (by simp only [maxLen]; omega) (by omega) (by have := HW.out.2.2.size; simp; omega) ?_); intro ob oc V hown hg hnr; have HO := Lib.hid (HW.out.app (x := (j, q)) hown hg); clear hown hg hnr)
                refine (hsp _).mono ?_
                rintro e w' ⟨rfl, rfl⟩
                clear hsp
                go_wp2
                go_roundw
                case rel => exact ⟨q + 1, N + 1, ob, oc, by omega, rfl, by rw [HN.out.2], by go_num, by rw [HN.out.1, ← List.append_assoc]; exact HO⟩
                case measure => simp [RowKit.intOf] <;> omega
          · obtain rfl : q = st.size := by omega
            have hb5 := fun W => blank5_any st W hstz
            obtain ⟨D, hD⟩ : ∃ D, D = due st d st.size := ⟨_, rfl⟩
            rw [← hD]
            have HD := Lib.hid hD
            clear hD
            go_wp2_with fail
            refine (hb5 _).mono ?_
            rintro e w' ⟨p, rfl, rfl, hbl⟩
            have HBL := Lib.hid hbl
            clear hb5 hbl
            cases p
            · go_wp2
              go_roundw
              case rel => exact ⟨j + 1, N, b, cc, by omega, rfl, by rw [HFR.out, HD.out, stopd, due_any HBL.out], by go_num, by rw [HNX.out]; exact HW⟩
              case measure => simp [RowKit.intOf] <;> omega
            · go_wp2
              go_roundw
              case rel => exact ⟨j + 1, N, b, cc, by omega, rfl, by rw [HFR.out, stopd, due_blank HBL.out], by go_num, by rw [HNX.out]; exact HW⟩
              case measure => simp [RowKit.intOf] <;> omega
    · obtain rfl : j = n := by omega
      go_wp2
      go_ret
      have hq := HW.out
      exact ⟨b, N, cc, rfl, by rw [hlen]; exact hq.ps, hq.2.2⟩


end Go.Proofs.Ytnngcminomooeaa.Pa
