/-
  The law QuotePairs, walked.
-/
import Derived.Test.YtfcedllgidhnfaaYKn
set_option linter.unusedVariables false
set_option linter.unusedSimpArgs false
set_option maxRecDepth 100000
namespace Go.Proofs.Ytfcedllgidhnfaa.YPa
open Go Go.RowKit Go.Proofs.Ytfcedllgidhnfaa.Vk Go.Proofs.Ytfcedllgidhnfaa.Str Go.Proofs.Ytfcedllgidhnfaa.Ln Go.Proofs.Ytfcedllgidhnfaa.Cl Go.Proofs.Ytfcedllgidhnfaa.Mv Go.Proofs.Ytfcedllgidhnfaa.Wo
attribute [local go_sem] Oper.semAt_some
set_option maxHeartbeats 8000000

theorem _root_.Go.Proofs.Ytfcedllgidhnfaa.Wo.Rs.none_zero {w : World} {n c : Nat} {l : List RN} (h : Rs w none n c l) : n = 0 ∧ c = 0 ∧ l = [] := by
  have hl := h.length
  obtain ⟨_, _, _, ⟨ao, he, h0⟩ | ⟨b, o, c', he, _⟩⟩ := h
  · injection he with _ e2 e3
    exact ⟨e2, e3, List.eq_nil_of_length_eq_zero (by omega)⟩
  · cases he
theorem _root_.Go.Proofs.Ytfcedllgidhnfaa.Wo.Rs.le_cap {w : World} {a : Option Addr} {n c : Nat} {l : List RN} (h : Rs w a n c l) : n ≤ c ∧ c ≤ 9223372036854775807 := by
  obtain ⟨_, _, _, ⟨ao, he, h0⟩ | ⟨b, o, c', he, hc, hm, _⟩⟩ := h
  · injection he with _ e2 e3; omega
  · injection he with _ e2 e3
    subst e3
    exact ⟨hc, hm⟩
theorem _root_.Go.Proofs.Ytfcedllgidhnfaa.Wo.Rs.take {w : World} {ad : Addr} {n c k : Nat} {l : List RN} (h : Rs w (some ad) n c l) (hk : k ≤ n) : Rs w (some ad) k c (l.take k) := by
  have hl := h.length
  have hf : fl c2 (l.take k) = (fl c2 l).take (k * 2) := by
    conv => rhs; rw [← List.take_append_drop k l, fl_append]
    rw [List.take_left' (by rw [fl_length c2_len, List.length_take]; omega)]
  obtain ⟨h1, h2, h3, ⟨ao, he, h0⟩ | ⟨b, o, c', he, hc, hm, hcell⟩⟩ := h
  · injection he with e1 e2 e3
    refine ⟨by rw [fl_length c2_len, List.length_take]; omega, fun u hu => h2 u (by rw [hf] at hu; exact List.mem_of_mem_take hu), by omega, .inl ⟨some ad, by rw [e3, show k = 0 by omega], by omega⟩⟩
  · injection he with e1 e2 e3
    subst e3
    refine ⟨by rw [fl_length c2_len, List.length_take]; omega, fun u hu => h2 u (by rw [hf] at hu; exact List.mem_of_mem_take hu), by omega, .inr ⟨b, o, c, by rw [e1], by omega, hm, fun j u hu => hcell j u ?_⟩⟩
    rw [hf] at hu
    rw [List.getElem?_take] at hu
    split at hu
    · exact hu
    · cases hu
theorem take_min (l : List RN) (K : Nat) : l.take (min K l.length) = l.take K := by
  by_cases h : K ≤ l.length
  · rw [Nat.min_eq_left h]
  · rw [Nat.min_eq_right (by omega), List.take_of_length_le (Nat.le_refl _), List.take_of_length_le (by omega)]

theorem walk (s : ByteArray) (b r : Int) (w : World) (hs : s.size ≤ 140737488355328) (hb0 : (Lit.int .u8 b).wf = true) (hr0 : (Lit.int .u8 r).wf = true) :
    Calls Try.prog 3 #[.string s, .int .u8 b, .int .u8 r] w fun e w' => e = .returned (.bool true) ∧ Below w.heap.size w w' := by
  have hk := known_any w
  have r2 : 0 ≤ r ∧ r ≤ 255 := by simpa [Lit.wf, IntKind.min, IntKind.max, IntKind.signed, IntKind.bits] using hr0
  obtain ⟨G, hG, hG5⟩ : ∃ G : Nat, r % 5 = (G : Int) ∧ G < 5 := ⟨(r % 5).toNat, by omega, by omega⟩
  have hGt : r.tmod 5 = (G : Int) := by rw [Int.tmod_eq_emod_of_nonneg r2.1]; exact hG
  have hwG : IntKind.i64.wrap (G : Int) = (G : Int) := by rw [IntKind.wrap_i64]; omega
  obtain ⟨K, hK1, hK2⟩ : ∃ K, G + 1 ≤ K ∧ K ≤ G + 1 := ⟨G + 1, by omega, by omega⟩
  have hwK : IntKind.i64.wrap ((G : Int) + 1) = (K : Int) := by rw [IntKind.wrap_i64]; omega
  go_enter Try.func3, Try.ntmps3
  go_wp2_with fail
  refine hk.mono ?_
  rintro e w1 ⟨rfl, hb1⟩
  have HB1 := Lib.hid hb1
  clear hk hb1
  by_cases h300 : 300 < s.size
  · have d0 : decide (300 < s.size) = true := decide_eq_true h300
    have d1 : decide ((300 : Int) < (s.size : Int)) = true := decide_eq_true (by omega)
    clear h300
    go_wp2
    go_ret
    exact ⟨rfl, HB1.out⟩
  have d0 : decide (300 < s.size) = false := decide_eq_false h300
  have d1 : decide ((300 : Int) < (s.size : Int)) = false := decide_eq_false (by omega)
  have lS : (qs s b).length ≤ 300 := by have := qs_len (s := s) (q := b); omega
  have hs3 : s.size ≤ 300 := by omega
  clear h300
  have D := Lib.hid (Below.refl w1.heap.size w1)
  have hst := pairs_tells s b w1 hs
  go_wp2_with fail
  refine hst.mono ?_
  rintro e v2 ⟨vA, rfl, ht, hb⟩
  have D := Lib.hid (below_on D.out hb)
  clear hb hst d0 d1
  have hhe := heard_any vA 1000 v2 ht (by omega) (by omega) (by omega)
  clear ht
  rw [show ((1000 : Nat) : Int) = 1000 from rfl, List.take_of_length_le (show (qs s b).length ≤ 1000 by omega)] at hhe
  go_wp2_with fail
  refine hhe.mono ?_
  rintro e v3 ⟨bA, NA, cA, rfl, hp, hb⟩
  have D := Lib.hid (below_on D.out hb)
  clear hb hhe
  have PA := Lib.hid hp
  have TA := Lib.hid (Below.refl v3.heap.size v3)
  clear hp
  have hdo := pairs15_any s b v3 (by omega)
  go_wp2_with fail
  refine hdo.mono ?_
  rintro e v4 ⟨bW, NW, cW, rfl, hO⟩
  have hp := hO.rs
  have hb := hO.bel
  have D := Lib.hid (below_on D.out hb)
  have TA := Lib.hid (below_on TA.out hb)
  clear hb hdo hO
  have PW := Lib.hid hp
  have TW := Lib.hid (Below.refl v4.heap.size v4)
  clear hp
  have hst := pairs_tells s b v4 hs
  go_wp2_with fail
  refine hst.mono ?_
  rintro e v5 ⟨vC, rfl, ht, hb⟩
  have D := Lib.hid (below_on D.out hb)
  have TA := Lib.hid (below_on TA.out hb)
  have TW := Lib.hid (below_on TW.out hb)
  clear hb hst
  have hhe := heard_any vC K v5 ht (by omega) (by omega) (by omega)
  clear ht
  go_wp2_with fail
  refine hhe.mono ?_
  rintro e v6 ⟨bC, NC, cC, rfl, hp, hb⟩
  have D := Lib.hid (below_on D.out hb)
  have TA := Lib.hid (below_on TA.out hb)
  have TW := Lib.hid (below_on TW.out hb)
  clear hb hhe
  have PC := Lib.hid hp
  have TC := Lib.hid (Below.refl v6.heap.size v6)
  clear hp
  obtain ⟨L, hL⟩ : ∃ L, L = qs s b := ⟨_, rfl⟩
  rw [← hL] at PA PW PC lS
  have HLL := Lib.hid hL
  clear hL
  have PA6 := Lib.hid (PA.out.below TA.out)
  have hlA := PA.out.length
  have hNA : NA ≤ 300 := by omega
  have HLA := Lib.hid hlA
  have HLS := Lib.hid lS
  clear hlA lS
  have hpl := same_any bA NA cA bW NW cW L v6 PA6.out (PW.out.below TW.out)
  go_wp2_with fail
  refine hpl.mono ?_
  rintro e v7 ⟨rfl, hb⟩
  have D := Lib.hid (below_on D.out hb)
  have TW := Lib.hid (below_on TW.out hb)
  have TC := Lib.hid (below_on TC.out hb)
  clear hb hpl
  have lW := PW.out.length
  obtain ⟨S1, hS1, hS2⟩ : ∃ S1 : Nat, min (K : Int) (NW : Int) = (S1 : Int) ∧ S1 = min K NW := ⟨min K NW, by omega, rfl⟩
  have i1 : (if (NW : Int) < (K : Int) then (NW : Int) else (K : Int)) = (S1 : Int) := by omega
  have i3 : (if NW < K then (NW : Int) else (K : Int)) = (S1 : Int) := by split <;> omega
  have u1 : S1 ≤ NW := by omega
  have uW := PW.out.le_cap
  have tW : L.take K = L.take S1 := by rw [hS2, ← lW, take_min]
  rw [tW] at PC
  clear tW hS2
  cases bW with
  | none =>
    obtain ⟨h0, h00, nW⟩ := Rs.none_zero PW.out
    subst h0 h00
    obtain rfl : S1 = 0 := by omega
    have HU := Lib.hid (And.intro u1 uW)
    have hpl := same_any bC NC cC none 0 0 (L.take 0) v7 (PC.out.below TC.out) (by rw [nW, List.take_nil]; exact Rs.nil _)
    go_wp2_with fail
    refine hpl.mono ?_
    rintro e y1 ⟨rfl, hb⟩
    have D := Lib.hid (below_on D.out hb)
    clear hb hpl
    go_wp2
    go_ret
    exact ⟨rfl, below_on HB1.out D.out⟩
  | some aW =>
    have HU := Lib.hid (And.intro u1 uW)
    have hpl := same_any bC NC cC (some aW) S1 cW (L.take S1) v7 (PC.out.below TC.out) ((PW.out.below TW.out).take u1)
    go_wp2_with fail
    refine hpl.mono ?_
    rintro e y1 ⟨rfl, hb⟩
    have D := Lib.hid (below_on D.out hb)
    clear hb hpl
    go_wp2
    go_ret
    exact ⟨rfl, below_on HB1.out D.out⟩
end Go.Proofs.Ytfcedllgidhnfaa.YPa
