/-
  The law WordRuns, walked.
-/
import Derived.Test.YtenehehljmckbaaOKn
set_option linter.unusedVariables false
set_option linter.unusedSimpArgs false
set_option maxRecDepth 100000
namespace Go.Proofs.Ytenehehljmckbaa.ORu
open Go Go.RowKit Go.Proofs.Ytenehehljmckbaa.Vk Go.Proofs.Ytenehehljmckbaa.Str Go.Proofs.Ytenehehljmckbaa.Ln Go.Proofs.Ytenehehljmckbaa.Cl Go.Proofs.Ytenehehljmckbaa.Mv Go.Proofs.Ytenehehljmckbaa.Wo
attribute [local go_sem] Oper.semAt_some
set_option maxHeartbeats 8000000

theorem _root_.Go.Proofs.Ytenehehljmckbaa.Wo.Rs.none_zero {w : World} {n c : Nat} {l : List RN} (h : Rs w none n c l) : n = 0 ∧ c = 0 ∧ l = [] := by
  have hl := h.length
  obtain ⟨_, _, _, ⟨ao, he, h0⟩ | ⟨b, o, c', he, _⟩⟩ := h
  · injection he with _ e2 e3
    exact ⟨e2, e3, List.eq_nil_of_length_eq_zero (by omega)⟩
  · cases he
theorem _root_.Go.Proofs.Ytenehehljmckbaa.Wo.Rs.le_cap {w : World} {a : Option Addr} {n c : Nat} {l : List RN} (h : Rs w a n c l) : n ≤ c ∧ c ≤ 9223372036854775807 := by
  obtain ⟨_, _, _, ⟨ao, he, h0⟩ | ⟨b, o, c', he, hc, hm, _⟩⟩ := h
  · injection he with _ e2 e3; omega
  · injection he with _ e2 e3
    subst e3
    exact ⟨hc, hm⟩
theorem _root_.Go.Proofs.Ytenehehljmckbaa.Wo.Rs.take {w : World} {ad : Addr} {n c k : Nat} {l : List RN} (h : Rs w (some ad) n c l) (hk : k ≤ n) : Rs w (some ad) k c (l.take k) := by
  have hl := h.length
  have hf : fl c2 (l.take k) = (fl c2 l).take (k * 2) := by
    conv => rhs; rw [← List.take_append_drop k l, fl_append]
    rw [List.take_left' (by rw [fl_length c2_len, List.length_take]; omega)]
  obtain ⟨h1, h2, h3, ⟨ao, he, h0⟩ | ⟨b, o, c', he, hc, hm, hcell⟩⟩ := h
  · injection he with e1 e2 e3
    refine ⟨by rw [fl_length c2_len, List.length_take]; omega, fun u hu => h2 u (by rw [hf] at hu; exact List.mem_of_mem_take hu), by omega, .inl ⟨some ad, by rw [e3, show k = 0 by omega], by omega⟩⟩
  · injection he with e1 e2 e3
    subst e3
    refine ⟨by rw [fl_length c2_len, List.length_take]; omega, fun u hu => h2 u (by rw [hf] at hu; exact List.mem_of_mem_take hu), by omega, .inr ⟨b, o, c, by rw [e1], by omega, hm, fun j u hu => hcell j u ?_⟩⟩
    rw [hf] at hu
    rw [List.getElem?_take] at hu
    split at hu
    · exact hu
    · cases hu
theorem take_min (l : List RN) (K : Nat) : l.take (min K l.length) = l.take K := by
  by_cases h : K ≤ l.length
  · rw [Nat.min_eq_left h]
  · rw [Nat.min_eq_right (by omega), List.take_of_length_le (Nat.le_refl _), List.take_of_length_le (by omega)]

theorem walk (s : ByteArray) (b : Bool) (r : Int) (w : World) (hs : s.size ≤ 140737488355328) (hr0 : (Lit.int .u8 r).wf = true) :
    Calls Try.prog 3 #[.string s, .bool b, .int .u8 r] w fun e w' => e = .returned (.bool true) ∧ Below w.heap.size w w' := by
  have hk := known_any w
  have r2 : 0 ≤ r ∧ r ≤ 255 := by simpa [Lit.wf, IntKind.min, IntKind.max, IntKind.signed, IntKind.bits] using hr0
  obtain ⟨G, hG, hG5⟩ : ∃ G : Nat, r % 9 = (G : Int) ∧ G < 9 := ⟨(r % 9).toNat, by omega, by omega⟩
  have hGt : r.tmod 9 = (G : Int) := by rw [Int.tmod_eq_emod_of_nonneg r2.1]; exact hG
  have hwG : IntKind.i64.wrap (G : Int) = (G : Int) := by rw [IntKind.wrap_i64]; omega
  obtain ⟨K, hK1, hK2⟩ : ∃ K, G + 1 ≤ K ∧ K ≤ G + 1 := ⟨G + 1, by omega, by omega⟩
  have hwK : IntKind.i64.wrap ((G : Int) + 1) = (K : Int) := by rw [IntKind.wrap_i64]; omega
  go_enter Try.func3, Try.ntmps3
  go_wp2_with fail
  refine hk.mono ?_
  rintro e w1 ⟨rfl, hb1⟩
  have HB1 := Lib.hid hb1
  clear hk hb1
  by_cases h300 : 300 < s.size
  · have d0 : decide (300 < s.size) = true := decide_eq_true h300
    have d1 : decide ((300 : Int) < (s.size : Int)) = true := decide_eq_true (by omega)
    clear h300
    go_wp2
    go_ret
    exact ⟨rfl, HB1.out⟩
  have d0 : decide (300 < s.size) = false := decide_eq_false h300
  have d1 : decide ((300 : Int) < (s.size : Int)) = false := decide_eq_false (by omega)
  have hrg := rs_rg (s := s) (b := b)
  have lS : (rs s b).length ≤ 300 := by have := hrg.len; omega
  have HG := Lib.hid hrg
  have hs3 : s.size ≤ 300 := by omega
  clear h300 hrg
  have D := Lib.hid (Below.refl w1.heap.size w1)
  have hst := runs_tells s b w1 hs
  go_wp2_with fail
  refine hst.mono ?_
  rintro e v2 ⟨vA, rfl, ht, hb⟩
  have D := Lib.hid (below_on D.out hb)
  clear hb hst d0 d1
  have hhe := heard_any vA 1000 v2 ht (by omega) (by omega) (by omega)
  clear ht
  rw [show ((1000 : Nat) : Int) = 1000 from rfl, List.take_of_length_le (show (rs s b).length ≤ 1000 by omega)] at hhe
  go_wp2_with fail
  refine hhe.mono ?_
  rintro e v3 ⟨bA, NA, cA, rfl, hp, hb⟩
  have D := Lib.hid (below_on D.out hb)
  clear hb hhe
  have PA := Lib.hid hp
  have TA := Lib.hid (Below.refl v3.heap.size v3)
  clear hp
  have hdo := runs15_any s b v3 (by omega)
  go_wp2_with fail
  refine hdo.mono ?_
  rintro e v4 ⟨bW, NW, cW, rfl, hO⟩
  have hp := hO.rs
  have hb := hO.bel
  have D := Lib.hid (below_on D.out hb)
  have TA := Lib.hid (below_on TA.out hb)
  clear hb hdo hO
  have PW := Lib.hid hp
  have TW := Lib.hid (Below.refl v4.heap.size v4)
  clear hp
  have hst := runs_tells s b v4 hs
  go_wp2_with fail
  refine hst.mono ?_
  rintro e v5 ⟨vC, rfl, ht, hb⟩
  have D := Lib.hid (below_on D.out hb)
  have TA := Lib.hid (below_on TA.out hb)
  have TW := Lib.hid (below_on TW.out hb)
  clear hb hst
  have hhe := heard_any vC K v5 ht (by omega) (by omega) (by omega)
  clear ht
  go_wp2_with fail
  refine hhe.mono ?_
  rintro e v6 ⟨bC, NC, cC, rfl, hp, hb⟩
  have D := Lib.hid (below_on D.out hb)
  have TA := Lib.hid (below_on TA.out hb)
  have TW := Lib.hid (below_on TW.out hb)
  clear hb hhe
  have PC := Lib.hid hp
  have TC := Lib.hid (Below.refl v6.heap.size v6)
  clear hp
  obtain ⟨L, hL⟩ : ∃ L, L = rs s b := ⟨_, rfl⟩
  rw [← hL] at PA PW PC lS HG
  have HLL := Lib.hid hL
  clear hL
  have PA6 := Lib.hid (PA.out.below TA.out)
  have hlA := PA.out.length
  have hNA : NA ≤ 300 := by omega
  have HLA := Lib.hid hlA
  have HLS := Lib.hid lS
  clear hlA lS
  go_wp2
  go_loop [13, 14] (fun a i => ∃ j A : Nat, a = .int .i64 A ∧ i = .int .i64 j ∧ Hid (j ≤ NA ∧ (∀ h : j < L.length, L[j].1 = A) ∧ (j = NA → A = s.size))) (fun _ i => NA - (RowKit.intOf i).toNat)
  case atStart =>
    refine ⟨0, 0, rfl, rfl, Nat.zero_le _, fun h => HG.out.zero h, fun h => ?_⟩
    have := HG.out.empty (List.eq_nil_of_length_eq_zero (by have := HLA.out; omega))
    omega
  case round =>
    obtain ⟨j, A, rfl, rfl, hR⟩ := hrel
    by_cases hjn : j < NA
    · have hjl : j < L.length := by have := HLA.out; omega
      obtain ⟨g, o, rfl, x0, x1, hnc⟩ := PA6.out.read j hjl
      have hA := hR.out.2.1 hjl
      have hne := HG.out.ne j hjl
      rw [hA] at x0 hne
      obtain ⟨B, hB⟩ : ∃ B, B = (L[j]'hjl).2 := ⟨_, rfl⟩
      rw [← hB] at x1 hne
      have HB := Lib.hid hB
      have e0 : decide (j < NA) = true := decide_eq_true hjn
      have e1 : (j : Int) < (NA : Int) := by omega
      have e2 : decide (B ≤ A) = false := decide_eq_false (by omega)
      have e3 : decide ((B : Int) ≤ (A : Int)) = false := decide_eq_false (by omega)
      obtain ⟨M, hM⟩ : ∃ M, M = j + 1 := ⟨_, rfl⟩
      have hwM : IntKind.i64.wrap ((j : Int) + 1) = (M : Int) := by rw [IntKind.wrap_i64]; omega
      have HM := Lib.hid hM
      clear hA hne hB hM hnc
      go_wp2
      go_round
      case rel =>
        have hM := HM.out
        subst hM
        refine ⟨j + 1, B, rfl, rfl, by omega, fun h => ?_, fun h => ?_⟩
        · rw [HG.out.next j h, HB.out]
        · rw [HB.out]; exact HG.out.last j (by have := HLA.out; omega)
      case measure => have := HM.out; simp [RowKit.intOf]; omega
    · have hj : j = NA := by have := hR.out.1; omega
      obtain rfl : A = s.size := hR.out.2.2 hj
      have e0 : decide (j < NA) = false := decide_eq_false hjn
      have e1 : decide ((j : Int) < (NA : Int)) = false := decide_eq_false (by omega)
      clear hj hR
      have hpl := same_any bA NA cA bW NW cW L v6 PA6.out (PW.out.below TW.out)
      go_wp2_with fail
      refine hpl.mono ?_
      rintro e v7 ⟨rfl, hb⟩
      have D := Lib.hid (below_on D.out hb)
      have TW := Lib.hid (below_on TW.out hb)
      have TC := Lib.hid (below_on TC.out hb)
      clear hb hpl
      have lW := PW.out.length
      obtain ⟨S1, hS1, hS2⟩ : ∃ S1 : Nat, min (K : Int) (NW : Int) = (S1 : Int) ∧ S1 = min K NW := ⟨min K NW, by omega, rfl⟩
      have i1 : (if (NW : Int) < (K : Int) then (NW : Int) else (K : Int)) = (S1 : Int) := by omega
      have i3 : (if NW < K then (NW : Int) else (K : Int)) = (S1 : Int) := by split <;> omega
      have u1 : S1 ≤ NW := by omega
      have uW := PW.out.le_cap
      have tW : L.take K = L.take S1 := by rw [hS2, ← lW, take_min]
      rw [tW] at PC
      clear tW hS2
      cases bW with
      | none =>
        obtain ⟨h0, h00, nW⟩ := Rs.none_zero PW.out
        subst h0 h00
        obtain rfl : S1 = 0 := by omega
        have HU := Lib.hid (And.intro u1 uW)
        have hpl := same_any bC NC cC none 0 0 (L.take 0) v7 (PC.out.below TC.out) (by rw [nW, List.take_nil]; exact Rs.nil _)
        go_wp2_with fail
        refine hpl.mono ?_
        rintro e y1 ⟨rfl, hb⟩
        have D := Lib.hid (below_on D.out hb)
        clear hb hpl
        go_wp2
        go_ret
        exact ⟨rfl, below_on HB1.out D.out⟩
      | some aW =>
        have HU := Lib.hid (And.intro u1 uW)
        have hpl := same_any bC NC cC (some aW) S1 cW (L.take S1) v7 (PC.out.below TC.out) ((PW.out.below TW.out).take u1)
        go_wp2_with fail
        refine hpl.mono ?_
        rintro e y1 ⟨rfl, hb⟩
        have D := Lib.hid (below_on D.out hb)
        clear hb hpl
        go_wp2
        go_ret
        exact ⟨rfl, below_on HB1.out D.out⟩
end Go.Proofs.Ytenehehljmckbaa.ORu
