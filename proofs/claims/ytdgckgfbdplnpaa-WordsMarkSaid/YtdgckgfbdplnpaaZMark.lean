/-
  The law WordsMark, walked.
-/
import Derived.Test.YtdgckgfbdplnpaaZh
set_option linter.unusedVariables false
set_option linter.unusedSimpArgs false
set_option maxRecDepth 100000
namespace Go.Proofs.Ytdgckgfbdplnpaa.ZMark
open Go Go.RowKit Go.Proofs.Ytdgckgfbdplnpaa.Vk Go.Proofs.Ytdgckgfbdplnpaa.Str Go.Proofs.Ytdgckgfbdplnpaa.Ln Go.Proofs.Ytdgckgfbdplnpaa.Cl Go.Proofs.Ytdgckgfbdplnpaa.Mv Go.Proofs.Ytdgckgfbdplnpaa.Wd
attribute [local go_sem] Oper.semAt_some
set_option maxHeartbeats 4000000

theorem _root_.Go.Proofs.Ytdgckgfbdplnpaa.Wd.Ps.none_zero {w : World} {n c : Nat} {l : List P2} (h : Ps w none n c l) : n = 0 ∧ c = 0 ∧ l = [] := by
  have hl := h.length
  obtain ⟨_, _, _, ⟨ao, he, h0⟩ | ⟨b, o, c', he, _⟩⟩ := h
  · injection he with _ e2 e3
    exact ⟨e2, e3, List.eq_nil_of_length_eq_zero (by omega)⟩
  · cases he
theorem _root_.Go.Proofs.Ytdgckgfbdplnpaa.Wd.Ps.le_cap {w : World} {a : Option Addr} {n c : Nat} {l : List P2} (h : Ps w a n c l) : n ≤ c ∧ c ≤ 9223372036854775807 := by
  obtain ⟨_, _, _, ⟨ao, he, h0⟩ | ⟨b, o, c', he, hc, hm, _⟩⟩ := h
  · injection he with _ e2 e3; omega
  · injection he with _ e2 e3
    subst e3
    exact ⟨hc, hm⟩
theorem _root_.Go.Proofs.Ytdgckgfbdplnpaa.Wd.Ps.take {w : World} {ad : Addr} {n c k : Nat} {l : List P2} (h : Ps w (some ad) n c l) (hk : k ≤ n) : Ps w (some ad) k c (l.take k) := by
  have hl := h.length
  have hf : flat (l.take k) = (flat l).take (k * 2) := by
    conv => rhs; rw [← List.take_append_drop k l, flat_append]
    rw [List.take_left' (by rw [flat_length, List.length_take]; omega)]
  obtain ⟨h1, h2, h3, ⟨ao, he, h0⟩ | ⟨b, o, c', he, hc, hm, hcell⟩⟩ := h
  · injection he with e1 e2 e3
    refine ⟨by rw [flat_length, List.length_take]; omega, fun u hu => h2 u (by rw [hf] at hu; exact List.mem_of_mem_take hu), by omega, .inl ⟨some ad, by rw [e3, show k = 0 by omega], by omega⟩⟩
  · injection he with e1 e2 e3
    subst e3
    refine ⟨by rw [flat_length, List.length_take]; omega, fun u hu => h2 u (by rw [hf] at hu; exact List.mem_of_mem_take hu), by omega, .inr ⟨b, o, c, by rw [e1], by omega, hm, fun j u hu => hcell j u ?_⟩⟩
    rw [hf] at hu
    rw [List.getElem?_take] at hu
    split at hu
    · exact hu
    · cases hu
theorem take_min (l : List P2) (K : Nat) : l.take (min K l.length) = l.take K := by
  by_cases h : K ≤ l.length
  · rw [Nat.min_eq_left h]
  · rw [Nat.min_eq_right (by omega), List.take_of_length_le (Nat.le_refl _), List.take_of_length_le (by omega)]

theorem walk (a : Option Addr) (n c' : Nat) (ls : List ByteArray) (big : Bool) (q : Int) (w : World) (h : Ss w a n c' ls) (hs : ∀ s ∈ ls, s.size ≤ 140737488355328) (hq0 : (Lit.int .u8 q).wf = true) :
    Calls Try.prog 3 #[.slice a n c', .bool big, .int .u8 q] w fun e w' => e = .returned (.bool true) ∧ Below w.heap.size w w' := by
  have hk := known_any w
  have q2 : 0 ≤ q ∧ q ≤ 255 := by simpa [Lit.wf, IntKind.min, IntKind.max, IntKind.signed, IntKind.bits] using hq0
  obtain ⟨J, hJ, hJ5⟩ : ∃ J : Nat, q % 20 = (J : Int) ∧ J < 20 := ⟨(q % 20).toNat, by omega, by omega⟩
  have hJt : q.tmod 20 = (J : Int) := by rw [Int.tmod_eq_emod_of_nonneg q2.1]; exact hJ
  obtain ⟨K, hK1, hK2⟩ : ∃ K, J + 1 ≤ K ∧ K ≤ J + 1 := ⟨J + 1, by omega, by omega⟩
  have hwJ : IntKind.i64.wrap (J : Int) = (J : Int) := wrap_id (by omega) (by omega)
  have hwK : IntKind.i64.wrap ((J : Int) + 1) = (K : Int) := by rw [wrap_id (by omega) (by omega)]; omega
  go_enter Try.func3, Try.ntmps3
  go_wp2_with fail
  refine hk.mono ?_
  rintro e w1 ⟨rfl, hb1⟩
  have htx := light_any a n c' ls w1 (SrcV.below h hb1) hs
  have HS1 := Lib.hid (SrcV.below h hb1)
  have HB1 := Lib.hid hb1
  clear hk hb1 h
  go_wp2_with fail
  refine htx.mono ?_
  rintro e w' ⟨qq, rfl, rfl, hq⟩
  clear htx
  cases qq
  · clear hq
    go_wp2
    go_ret
    exact ⟨rfl, HB1.out⟩
  obtain ⟨hn40, hz, _⟩ := hq rfl
  clear hq
  have lS : (sts big ls).length ≤ 1240 := Nat.le_trans (mks_tz _ _ _) hz
  have lE : (eds big ls).length ≤ 1240 := Nat.le_trans (mks_tz _ _ _) hz
  have D := Lib.hid (Below.refl w1.heap.size w1)
  have hst := Starts_tells a n c' ls big w1 (SrcV.below HS1.out D.out) hs (by omega)
  go_wp2_with fail
  refine (hst).mono ?_
  rintro e w2 ⟨vA, rfl, ht, hb⟩
  have D := Lib.hid (below_on D.out hb)
  clear hb hst
  have hhe := heard_any vA 5000 w2 ht (by omega) (by omega) (by omega)
  clear ht
  rw [show ((5000 : Nat) : Int) = 5000 from rfl, List.take_of_length_le (show (sts big ls).length ≤ 5000 by omega)] at hhe
  go_wp2_with fail
  refine (hhe).mono ?_
  rintro e w3 ⟨bA, NA, cA, rfl, hp, hb⟩
  have D := Lib.hid (below_on D.out hb)
  clear hb hhe
  have PA := Lib.hid hp
  have TA := Lib.hid (Below.refl w3.heap.size w3)
  clear hp
  have hst := Ends_tells a n c' ls big w3 (SrcV.below HS1.out D.out) hs (by omega)
  go_wp2_with fail
  refine (hst).mono ?_
  rintro e w4 ⟨vB, rfl, ht, hb⟩
  have D := Lib.hid (below_on D.out hb)
  have TA := Lib.hid (below_on TA.out hb)
  clear hb hst
  have hhe := heard_any vB 5000 w4 ht (by omega) (by omega) (by omega)
  clear ht
  rw [show ((5000 : Nat) : Int) = 5000 from rfl, List.take_of_length_le (show (eds big ls).length ≤ 5000 by omega)] at hhe
  go_wp2_with fail
  refine (hhe).mono ?_
  rintro e w5 ⟨bB, NB, cB, rfl, hp, hb⟩
  have D := Lib.hid (below_on D.out hb)
  have TA := Lib.hid (below_on TA.out hb)
  clear hb hhe
  have PB := Lib.hid hp
  have TB := Lib.hid (Below.refl w5.heap.size w5)
  clear hp
  have hdo := starts5_n a n c' ls big w5 (SrcV.below HS1.out D.out) hs (by omega)
  go_wp2_with fail
  refine (hdo).mono ?_
  rintro e w6 ⟨bW, NW, cW, rfl, hp, hb⟩
  have D := Lib.hid (below_on D.out hb)
  have TA := Lib.hid (below_on TA.out hb)
  have TB := Lib.hid (below_on TB.out hb)
  clear hb hdo
  have PW := Lib.hid hp
  have TW := Lib.hid (Below.refl w6.heap.size w6)
  clear hp
  have hdo := ends5_n a n c' ls big w6 (SrcV.below HS1.out D.out) hs (by omega)
  go_wp2_with fail
  refine (hdo).mono ?_
  rintro e w7 ⟨bV, NV, cV, rfl, hp, hb⟩
  have D := Lib.hid (below_on D.out hb)
  have TA := Lib.hid (below_on TA.out hb)
  have TB := Lib.hid (below_on TB.out hb)
  have TW := Lib.hid (below_on TW.out hb)
  clear hb hdo
  have PV := Lib.hid hp
  have TV := Lib.hid (Below.refl w7.heap.size w7)
  clear hp
  have hpl := places_same bA NA cA bW NW cW (sts big ls) w7 (PA.out.below TA.out) (PW.out.below TW.out)
  go_wp2_with fail
  refine (hpl).mono ?_
  rintro e w8 ⟨rfl, hb⟩
  have D := Lib.hid (below_on D.out hb)
  have TA := Lib.hid (below_on TA.out hb)
  have TB := Lib.hid (below_on TB.out hb)
  have TW := Lib.hid (below_on TW.out hb)
  have TV := Lib.hid (below_on TV.out hb)
  clear hb hpl
  have hpl := places_same bB NB cB bV NV cV (eds big ls) w8 (PB.out.below TB.out) (PV.out.below TV.out)
  go_wp2_with fail
  refine (hpl).mono ?_
  rintro e w9 ⟨rfl, hb⟩
  have D := Lib.hid (below_on D.out hb)
  have TA := Lib.hid (below_on TA.out hb)
  have TB := Lib.hid (below_on TB.out hb)
  have TW := Lib.hid (below_on TW.out hb)
  have TV := Lib.hid (below_on TV.out hb)
  clear hb hpl
  have hst := Starts_tells a n c' ls big w9 (SrcV.below HS1.out D.out) hs (by omega)
  go_wp2_with fail
  refine (hst).mono ?_
  rintro e w10 ⟨vC, rfl, ht, hb⟩
  have D := Lib.hid (below_on D.out hb)
  have TA := Lib.hid (below_on TA.out hb)
  have TB := Lib.hid (below_on TB.out hb)
  have TW := Lib.hid (below_on TW.out hb)
  have TV := Lib.hid (below_on TV.out hb)
  clear hb hst
  have hhe := heard_any vC K w10 ht (by omega) (by omega) (by omega)
  clear ht
  go_wp2_with fail
  refine (hhe).mono ?_
  rintro e w11 ⟨bC, NC, cC, rfl, hp, hb⟩
  have D := Lib.hid (below_on D.out hb)
  have TA := Lib.hid (below_on TA.out hb)
  have TB := Lib.hid (below_on TB.out hb)
  have TW := Lib.hid (below_on TW.out hb)
  have TV := Lib.hid (below_on TV.out hb)
  clear hb hhe
  have PC := Lib.hid hp
  have TC := Lib.hid (Below.refl w11.heap.size w11)
  clear hp
  have hst := Ends_tells a n c' ls big w11 (SrcV.below HS1.out D.out) hs (by omega)
  go_wp2_with fail
  refine (hst).mono ?_
  rintro e w12 ⟨vE, rfl, ht, hb⟩
  have D := Lib.hid (below_on D.out hb)
  have TA := Lib.hid (below_on TA.out hb)
  have TB := Lib.hid (below_on TB.out hb)
  have TW := Lib.hid (below_on TW.out hb)
  have TV := Lib.hid (below_on TV.out hb)
  have TC := Lib.hid (below_on TC.out hb)
  clear hb hst
  have hhe := heard_any vE K w12 ht (by omega) (by omega) (by omega)
  clear ht
  go_wp2_with fail
  refine (hhe).mono ?_
  rintro e w13 ⟨bE, NE, cE, rfl, hp, hb⟩
  have D := Lib.hid (below_on D.out hb)
  have TA := Lib.hid (below_on TA.out hb)
  have TB := Lib.hid (below_on TB.out hb)
  have TW := Lib.hid (below_on TW.out hb)
  have TV := Lib.hid (below_on TV.out hb)
  have TC := Lib.hid (below_on TC.out hb)
  clear hb hhe
  have PE := Lib.hid hp
  have TE := Lib.hid (Below.refl w13.heap.size w13)
  clear hp
  have lW := PW.out.length
  have lV := PV.out.length
  obtain ⟨S1, hS1, hS2⟩ : ∃ S1 : Nat, min (K : Int) (NW : Int) = (S1 : Int) ∧ S1 = min K NW := ⟨min K NW, by omega, rfl⟩
  obtain ⟨S2, hS3, hS4⟩ : ∃ S2 : Nat, min (K : Int) (NV : Int) = (S2 : Int) ∧ S2 = min K NV := ⟨min K NV, by omega, rfl⟩
  have i1 : (if (NW : Int) < (K : Int) then (NW : Int) else (K : Int)) = (S1 : Int) := by omega
  have i2 : (if (NV : Int) < (K : Int) then (NV : Int) else (K : Int)) = (S2 : Int) := by omega
  have i3 : (if NW < K then (NW : Int) else (K : Int)) = (S1 : Int) := by split <;> omega
  have i4 : (if NV < K then (NV : Int) else (K : Int)) = (S2 : Int) := by split <;> omega
  have u1 : S1 ≤ NW := by omega
  have u2 : S2 ≤ NV := by omega
  have uW := PW.out.le_cap
  have uV := PV.out.le_cap
  have tW : (sts big ls).take K = (sts big ls).take S1 := by rw [hS2, ← lW, take_min]
  have tV : (eds big ls).take K = (eds big ls).take S2 := by rw [hS4, ← lV, take_min]
  rw [tW] at PC
  rw [tV] at PE
  clear tW tV hS2 hS4 lS lE
  cases bW with
  | none =>
    obtain ⟨h0, h00, nW⟩ := Ps.none_zero PW.out
    subst h0 h00
    obtain rfl : S1 = 0 := by omega
    cases bV with
    | none =>
      obtain ⟨h0, h00, nV⟩ := Ps.none_zero PV.out
      subst h0 h00
      obtain rfl : S2 = 0 := by omega
      have HU := Lib.hid (And.intro u1 (And.intro u2 (And.intro uW uV)))
      have hpl := places_same bC NC cC none 0 0 ((sts big ls).take 0) w13 (PC.out.below TC.out) (by rw [nW, List.take_nil]; exact Ps.nil _)
      go_wp2_with fail
      refine (hpl).mono ?_
      rintro e y1 ⟨rfl, hb⟩
      have D := Lib.hid (below_on D.out hb)
      have TA := Lib.hid (below_on TA.out hb)
      have TB := Lib.hid (below_on TB.out hb)
      have TW := Lib.hid (below_on TW.out hb)
      have TV := Lib.hid (below_on TV.out hb)
      have TC := Lib.hid (below_on TC.out hb)
      have TE := Lib.hid (below_on TE.out hb)
      clear hb hpl
      have hpl := places_same bE NE cE none 0 0 ((eds big ls).take 0) y1 (PE.out.below TE.out) (by rw [nV, List.take_nil]; exact Ps.nil _)
      go_wp2_with fail
      refine (hpl).mono ?_
      rintro e y2 ⟨rfl, hb⟩
      have D := Lib.hid (below_on D.out hb)
      have TA := Lib.hid (below_on TA.out hb)
      have TB := Lib.hid (below_on TB.out hb)
      have TW := Lib.hid (below_on TW.out hb)
      have TV := Lib.hid (below_on TV.out hb)
      have TC := Lib.hid (below_on TC.out hb)
      have TE := Lib.hid (below_on TE.out hb)
      clear hb hpl
      go_wp2
      go_ret
      exact ⟨rfl, below_on HB1.out D.out⟩
    | some aV =>
      have HU := Lib.hid (And.intro u1 (And.intro u2 (And.intro uW uV)))
      have hpl := places_same bC NC cC none 0 0 ((sts big ls).take 0) w13 (PC.out.below TC.out) (by rw [nW, List.take_nil]; exact Ps.nil _)
      go_wp2_with fail
      refine (hpl).mono ?_
      rintro e y1 ⟨rfl, hb⟩
      have D := Lib.hid (below_on D.out hb)
      have TA := Lib.hid (below_on TA.out hb)
      have TB := Lib.hid (below_on TB.out hb)
      have TW := Lib.hid (below_on TW.out hb)
      have TV := Lib.hid (below_on TV.out hb)
      have TC := Lib.hid (below_on TC.out hb)
      have TE := Lib.hid (below_on TE.out hb)
      clear hb hpl
      have hpl := places_same bE NE cE (some aV) S2 cV ((eds big ls).take S2) y1 (PE.out.below TE.out) ((PV.out.below TV.out).take u2)
      go_wp2_with fail
      refine (hpl).mono ?_
      rintro e y2 ⟨rfl, hb⟩
      have D := Lib.hid (below_on D.out hb)
      have TA := Lib.hid (below_on TA.out hb)
      have TB := Lib.hid (below_on TB.out hb)
      have TW := Lib.hid (below_on TW.out hb)
      have TV := Lib.hid (below_on TV.out hb)
      have TC := Lib.hid (below_on TC.out hb)
      have TE := Lib.hid (below_on TE.out hb)
      clear hb hpl
      go_wp2
      go_ret
      exact ⟨rfl, below_on HB1.out D.out⟩
  | some aW =>
    cases bV with
    | none =>
      obtain ⟨h0, h00, nV⟩ := Ps.none_zero PV.out
      subst h0 h00
      obtain rfl : S2 = 0 := by omega
      have HU := Lib.hid (And.intro u1 (And.intro u2 (And.intro uW uV)))
      have hpl := places_same bC NC cC (some aW) S1 cW ((sts big ls).take S1) w13 (PC.out.below TC.out) ((PW.out.below TW.out).take u1)
      go_wp2_with fail
      refine (hpl).mono ?_
      rintro e y1 ⟨rfl, hb⟩
      have D := Lib.hid (below_on D.out hb)
      have TA := Lib.hid (below_on TA.out hb)
      have TB := Lib.hid (below_on TB.out hb)
      have TW := Lib.hid (below_on TW.out hb)
      have TV := Lib.hid (below_on TV.out hb)
      have TC := Lib.hid (below_on TC.out hb)
      have TE := Lib.hid (below_on TE.out hb)
      clear hb hpl
      have hpl := places_same bE NE cE none 0 0 ((eds big ls).take 0) y1 (PE.out.below TE.out) (by rw [nV, List.take_nil]; exact Ps.nil _)
      go_wp2_with fail
      refine (hpl).mono ?_
      rintro e y2 ⟨rfl, hb⟩
      have D := Lib.hid (below_on D.out hb)
      have TA := Lib.hid (below_on TA.out hb)
      have TB := Lib.hid (below_on TB.out hb)
      have TW := Lib.hid (below_on TW.out hb)
      have TV := Lib.hid (below_on TV.out hb)
      have TC := Lib.hid (below_on TC.out hb)
      have TE := Lib.hid (below_on TE.out hb)
      clear hb hpl
      go_wp2
      go_ret
      exact ⟨rfl, below_on HB1.out D.out⟩
    | some aV =>
      have HU := Lib.hid (And.intro u1 (And.intro u2 (And.intro uW uV)))
      have hpl := places_same bC NC cC (some aW) S1 cW ((sts big ls).take S1) w13 (PC.out.below TC.out) ((PW.out.below TW.out).take u1)
      go_wp2_with fail
      refine (hpl).mono ?_
      rintro e y1 ⟨rfl, hb⟩
      have D := Lib.hid (below_on D.out hb)
      have TA := Lib.hid (below_on TA.out hb)
      have TB := Lib.hid (below_on TB.out hb)
      have TW := Lib.hid (below_on TW.out hb)
      have TV := Lib.hid (below_on TV.out hb)
      have TC := Lib.hid (below_on TC.out hb)
      have TE := Lib.hid (below_on TE.out hb)
      clear hb hpl
      have hpl := places_same bE NE cE (some aV) S2 cV ((eds big ls).take S2) y1 (PE.out.below TE.out) ((PV.out.below TV.out).take u2)
      go_wp2_with fail
      refine (hpl).mono ?_
      rintro e y2 ⟨rfl, hb⟩
      have D := Lib.hid (below_on D.out hb)
      have TA := Lib.hid (below_on TA.out hb)
      have TB := Lib.hid (below_on TB.out hb)
      have TW := Lib.hid (below_on TW.out hb)
      have TV := Lib.hid (below_on TV.out hb)
      have TC := Lib.hid (below_on TC.out hb)
      have TE := Lib.hid (below_on TE.out hb)
      clear hb hpl
      go_wp2
      go_ret
      exact ⟨rfl, below_on HB1.out D.out⟩
end Go.Proofs.Ytdgckgfbdplnpaa.ZMark
