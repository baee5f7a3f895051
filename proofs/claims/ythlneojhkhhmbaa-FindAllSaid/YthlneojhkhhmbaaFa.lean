/-
  The document's All.
-/
import Derived.Test.YthlneojhkhhmbaaFg
import Derived.Test.YthlneojhkhhmbaaZd
set_option linter.unusedVariables false
set_option linter.unusedSimpArgs false
set_option maxRecDepth 100000
namespace Go.Proofs.Ythlneojhkhhmbaa.Fd
open Go Go.RowKit Go.Proofs.Ythlneojhkhhmbaa.Vk Go.Proofs.Ythlneojhkhhmbaa.Str Go.Proofs.Ythlneojhkhhmbaa.Ln Go.Proofs.Ythlneojhkhhmbaa.Cl Go.Proofs.Ythlneojhkhhmbaa.Mv Go.Proofs.Ythlneojhkhhmbaa.Wd Go.Shelf
attribute [local go_sem] Oper.semAt_some

set_option maxHeartbeats 4000000 in
theorem all5_any (a : Option Addr) (n c : Nat) (ls : List ByteArray) (pt : ByteArray) (w : World) (h : Ss w a n c ls) (hs : ∀ s ∈ ls, s.size ≤ 140737488355328) (hp : pt.size ≤ 140737488355328) (htz : tz ls ≤ 900000) :
    Calls Try.prog 14 #[.slice a n c, .string pt] w fun e w' => ∃ b cc, e = .returned (.slice b (pls pt ls).length cc) ∧ Ps w' b (pls pt ls).length cc (pls pt ls) ∧ Below w.heap.size w w' := by
  have hn := h.le63
  have hlen := h.length
  obtain ⟨i0, hi0, hz0, hz1', hz2'⟩ := info_parts infoP
  by_cases hz : pt.size = 0
  · have he := empty_of_zero hz
    rw [pls_none hz]
    clear hz htz hp
    by_cases hn0 : 0 < n
    · have d0 : decide (0 < n) = true := decide_eq_true hn0
      clear h
      go_enter Try.func14, Try.ntmps14
      go_wp2
      go_loopw [5, 6] (fun u i wr => u = .slice none 0 0 ∧ i = .int .i64 0 ∧ wr = w) (fun _ _ _ => 0)
      case atStart => exact ⟨rfl, rfl, rfl⟩
      case round =>
        obtain ⟨rfl, rfl, rfl⟩ := hrel
        go_wp2
        go_ret
        exact ⟨none, 0, rfl, Ps.nil _, Below.refl _ _⟩
    · have d0 : decide (0 < n) = false := decide_eq_false hn0
      obtain rfl : n = 0 := by omega
      clear h
      go_enter Try.func14, Try.ntmps14
      go_wp2
      go_loopw [5, 6] (fun u i wr => u = .slice none 0 0 ∧ i = .int .i64 0 ∧ wr = w) (fun _ _ _ => 0)
      case atStart => exact ⟨rfl, rfl, rfl⟩
      case round =>
        obtain ⟨rfl, rfl, rfl⟩ := hrel
        go_wp2
        go_ret
        exact ⟨none, 0, rfl, Ps.nil _, Below.refl _ _⟩
  · have hpz : 0 < pt.size := by omega
    have he := empty_of_pos (x := pt) hpz
    have HTZ := Lib.hid (show (mks false (occ pt) ls ls.length).length ≤ 900000 from Nat.le_trans (pls_tz _ _) htz)
    unfold pls
    clear hz
    go_enter Try.func14, Try.ntmps14
    go_wp2
    go_loopw [5, 6] (fun u i wr => ∃ (j N : Nat) (b : Option Addr) (cc : Nat), j ≤ n ∧ u = .slice b N cc ∧ i = .int .i64 j ∧ Hid (Wd.Own w (mks false (occ pt) ls j) N b cc wr)) (fun u i _ => n - (RowKit.intOf i).toNat)
    case atStart => exact ⟨0, 0, none, 0, Nat.zero_le _, rfl, rfl, Wd.Own.nil w⟩
    case round =>
      obtain ⟨j, N, b, cc, hjn, rfl, rfl, HW⟩ := hrel
      by_cases hkn : j < n
      · obtain ⟨ba, o, rfl, hcx, hnc, _⟩ := h.read j (by omega)
        have hlt := lineAt_get (ls := ls) (k := j) (by omega)
        have hstz := hs (ls[j]'(by omega)) (List.getElem_mem (by omega))
        have hstz2 := tz_mem ls (ls[j]'(by omega)) (List.getElem_mem (by omega))
        rw [← hlt] at hcx hstz hstz2
        obtain ⟨st, hst⟩ : ∃ st, st = lineAt ls j := ⟨_, rfl⟩
        rw [← hst] at hcx hstz hstz2
        have hst9 : st.size ≤ 900000 := by omega
        have HST := Lib.hid hst
        have HH := Lib.hid h
        clear hlt hst h
        have HI : Hid (Wd.Own w (mks false (occ pt) ls j ++ lpt false (occ pt) j st 0) N b cc wr) := by rw [lpt_none, List.append_nil]; exact HW
        clear HW hstz2
        go_wp2
        go_loopw [5, 7] (fun u i wq => ∃ (q N : Nat) (b : Option Addr) (cc : Nat), q ≤ st.size ∧ u = .slice b N cc ∧ i = .int .i64 q ∧ Hid (Wd.Own w (mks false (occ pt) ls j ++ lpt false (occ pt) j st q) N b cc wq)) (fun u i _ => st.size - (RowKit.intOf i).toNat)
        case atStart => exact ⟨0, _, b, cc, Nat.zero_le _, rfl, rfl, HI⟩
        case round =>
          obtain ⟨q, N, b, cc, hqn, rfl, rfl, HW⟩ := hrel
          have c3 := cell_later HW.out.2.2 hcx
          obtain ⟨E, hE⟩ : ∃ E, E = q + pt.size := ⟨_, rfl⟩
          have hwE : IntKind.i64.wrap ((q : Int) + (pt.size : Int)) = (E : Int) := by rw [IntKind.wrap_i64]; omega
          by_cases hqs : E ≤ st.size
          · have hqq : q < st.size := by omega
            have hLb : N ≤ 2000000 := by
              have h5 := HW.out.1
              obtain ⟨r, hr⟩ := mks_cut (e := false) (pr := occ pt) (ls := ls) (n := ls.length) (i := j) (by omega)
              have h3 := HTZ.out
              rw [hr, ← HST.out, List.length_append, List.length_append] at h3
              have h4 : (lpt false (occ pt) j st q).length ≤ st.size + 1 := lpt_length hqn
              rw [List.length_append] at h5; omega
            have hbq := occ_in (pt := pt) (s := st) (q := q) hpz (by omega)
            have b0 : (q : Int) ≤ (E : Int) := by omega
            have b1 : (E : Int) ≤ (st.size : Int) := by omega
            have b2 : q ≤ E := by omega
            rw [← hE] at hbq
            cases hoc : occ pt st q
            · rw [hoc] at hbq
              have hbq2 := hbq.symm
              have HN := Lib.hid (lpt_no (e := false) (i := j) hoc)
              clear hoc hbq hE
              go_wp2
              go_roundw
              case rel => exact ⟨q + 1, N, b, cc, by omega, rfl, by go_num, by rw [HN.out]; exact HW⟩
              case measure => simp [RowKit.intOf]; omega
            · rw [hoc] at hbq
              have hbq2 := hbq.symm
              have HN := Lib.hid (lpt_yes (e := false) (i := j) hoc)
              clear hoc hbq hE
              go_wp2_with (at_builtin; go_must (refine append_srcv _ rfl _ _ 29 rfl w.heap.size EP i0 (.agg #[.int .i64 0, .int .i64 0]) 2 16 underP hi0 hz0 hz1' hz2' rfl (by decide) (.slice b N cc) _ _ rfl (HW.out.built _) (.slice (some ⟨wr.heap.size, 0, none⟩) 1 1) 1 [.int .i64 (j : Int), .int .i64 (q : Int)] rfl (SrcV.pos wr (j : Int) (q : Int)) (by simp only [maxLen]; omega) (by omega) (by have := HW.out.2.2.size; simp; omega) ?_); intro ob oc V hown hg hnr; have HO := Lib.hid (HW.out.app (x := (j, q)) hown hg); clear hown hg hnr)
              go_roundw
              case rel => exact ⟨q + 1, N + 1, ob, oc, by omega, rfl, by go_num, by rw [HN.out, ← List.append_assoc]; exact HO.out⟩
              case measure => simp [RowKit.intOf]; omega
          · have HR := Lib.hid (lpt_rest (i := j) hqn (show st.size < q + pt.size by omega))
            have b1 : ¬ (E : Int) ≤ (st.size : Int) := by omega
            clear hE
            go_wp2
            go_roundw
            case rel => exact ⟨j + 1, N, b, cc, by omega, rfl, by go_num, by rw [mks_succ, ← HST.out, HR.out]; exact HW⟩
            case measure => simp [RowKit.intOf]; omega
      · obtain rfl : j = n := by omega
        go_wp2
        go_ret
        have hq := HW.out
        rw [hlen, hq.1]
        exact ⟨b, cc, rfl, hq.ps, hq.2.2⟩
end Go.Proofs.Ythlneojhkhhmbaa.Fd
