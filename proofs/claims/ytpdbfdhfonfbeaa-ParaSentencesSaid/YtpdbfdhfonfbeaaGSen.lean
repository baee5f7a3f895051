/-
  The law ParaSentences, walked.
-/
import Derived.Test.YtpdbfdhfonfbeaaGk
import Derived.Test.YtpdbfdhfonfbeaaGd
set_option linter.unusedVariables false
set_option linter.unusedSimpArgs false
set_option maxRecDepth 100000
namespace Go.Proofs.Ytpdbfdhfonfbeaa.GSen
open Go Go.RowKit Go.Proofs.Ytpdbfdhfonfbeaa.Vk Go.Proofs.Ytpdbfdhfonfbeaa.Str Go.Proofs.Ytpdbfdhfonfbeaa.Ln Go.Proofs.Ytpdbfdhfonfbeaa.Cl Go.Proofs.Ytpdbfdhfonfbeaa.Mv Go.Proofs.Ytpdbfdhfonfbeaa.Wd Go.Proofs.Ytpdbfdhfonfbeaa.Pa
attribute [local go_sem] Oper.semAt_some
set_option maxHeartbeats 4000000

theorem _root_.Go.Proofs.Ytpdbfdhfonfbeaa.Wd.Ps.none_zero {w : World} {n c : Nat} {l : List P2} (h : Ps w none n c l) : n = 0 ∧ c = 0 ∧ l = [] := by
  have hl := h.length
  obtain ⟨_, _, _, ⟨ao, he, h0⟩ | ⟨b, o, c', he, _⟩⟩ := h
  · injection he with _ e2 e3
    exact ⟨e2, e3, List.eq_nil_of_length_eq_zero (by omega)⟩
  · cases he
theorem _root_.Go.Proofs.Ytpdbfdhfonfbeaa.Wd.Ps.le_cap {w : World} {a : Option Addr} {n c : Nat} {l : List P2} (h : Ps w a n c l) : n ≤ c ∧ c ≤ 9223372036854775807 := by
  obtain ⟨_, _, _, ⟨ao, he, h0⟩ | ⟨b, o, c', he, hc, hm, _⟩⟩ := h
  · injection he with _ e2 e3; omega
  · injection he with _ e2 e3
    subst e3
    exact ⟨hc, hm⟩
theorem _root_.Go.Proofs.Ytpdbfdhfonfbeaa.Wd.Ps.take {w : World} {ad : Addr} {n c k : Nat} {l : List P2} (h : Ps w (some ad) n c l) (hk : k ≤ n) : Ps w (some ad) k c (l.take k) := by
  have hl := h.length
  have hf : flat (l.take k) = (flat l).take (k * 2) := by
    conv => rhs; rw [← List.take_append_drop k l, flat_append]
    rw [List.take_left' (by rw [flat_length, List.length_take]; omega)]
  obtain ⟨h1, h2, h3, ⟨ao, he, h0⟩ | ⟨b, o, c', he, hc, hm, hcell⟩⟩ := h
  · injection he with e1 e2 e3
    refine ⟨by rw [flat_length, List.length_take]; omega, fun u hu => h2 u (by rw [hf] at hu; exact List.mem_of_mem_take hu), by omega, .inl ⟨some ad, by rw [e3, show k = 0 by omega], by omega⟩⟩
  · injection he with e1 e2 e3
    subst e3
    refine ⟨by rw [flat_length, List.length_take]; omega, fun u hu => h2 u (by rw [hf] at hu; exact List.mem_of_mem_take hu), by omega, .inr ⟨b, o, c, by rw [e1], by omega, hm, fun j u hu => hcell j u ?_⟩⟩
    rw [hf] at hu
    rw [List.getElem?_take] at hu
    split at hu
    · exact hu
    · cases hu
theorem take_min (l : List P2) (K : Nat) : l.take (min K l.length) = l.take K := by
  by_cases h : K ≤ l.length
  · rw [Nat.min_eq_left h]
  · rw [Nat.min_eq_right (by omega), List.take_of_length_le (Nat.le_refl _), List.take_of_length_le (by omega)]

theorem sorted_at {l : List P2} (h : l.Pairwise fun a b => lp a b = true) {i j : Nat} (hi : i < j) (hj : j < l.length) : lp (l[i]'(by omega)) l[j] = true := List.pairwise_iff_getElem.1 h i j (by omega) hj hi

theorem bw_opt {b b' o o' : Nat} (h : (some ⟨b, o, none⟩ : Option Addr) = some ⟨b', o', none⟩) : b' = b ∧ o' = o := by
  injection h with h
  injection h with h1 h2
  exact ⟨h1.symm, h2.symm⟩

theorem walk (a : Option Addr) (n c' : Nat) (ls : List ByteArray) (q : Int) (w : World) (h : Ss w a n c' ls) (hs : ∀ s ∈ ls, s.size ≤ 140737488355328) (hq0 : (Lit.int .u8 q).wf = true) :
    Calls Try.prog 4 #[.slice a n c', .int .u8 q] w fun e w' => e = .returned (.bool true) ∧ Below w.heap.size w w' := by
  have hk := known_any w
  have q2 : 0 ≤ q ∧ q ≤ 255 := by simpa [Lit.wf, IntKind.min, IntKind.max, IntKind.signed, IntKind.bits] using hq0
  obtain ⟨J, hJ, hJ5⟩ : ∃ J : Nat, q % 10 = (J : Int) ∧ J < 10 := ⟨(q % 10).toNat, by omega, by omega⟩
  have hJt : q.tmod 10 = (J : Int) := by rw [Int.tmod_eq_emod_of_nonneg q2.1]; exact hJ
  obtain ⟨K, hK1, hK2⟩ : ∃ K, J + 1 ≤ K ∧ K ≤ J + 1 := ⟨J + 1, by omega, by omega⟩
  have hwJ : IntKind.i64.wrap (J : Int) = (J : Int) := wrap_id (by omega) (by omega)
  have hwJ8 : IntKind.u8.wrap (J : Int) = (J : Int) := by simp [IntKind.wrap, IntKind.bits, IntKind.signed]; omega
  have hwK : IntKind.i64.wrap ((J : Int) + 1) = (K : Int) := by rw [wrap_id (by omega) (by omega)]; omega
  go_enter Try.func4, Try.ntmps4
  go_wp2_with fail
  refine hk.mono ?_
  rintro e w1 ⟨rfl, hb1⟩
  have htx := light_any a n c' ls w1 (SrcV.below h hb1) hs
  have HS1 := Lib.hid (SrcV.below h hb1)
  have HB1 := Lib.hid hb1
  clear hk hb1 h
  go_wp2_with fail
  refine htx.mono ?_
  rintro e w' ⟨qq, rfl, rfl, hq⟩
  clear htx
  cases qq
  · clear hq
    go_wp2
    go_ret
    exact ⟨rfl, HB1.out⟩
  obtain ⟨hn40, hz, _⟩ := hq rfl
  clear hq
  have lS : (sen ls).length ≤ 1240 := Nat.le_trans (sen_tz _) hz
  have D := Lib.hid (Below.refl w1.heap.size w1)
  have hst := Sentences_tells a n c' ls w1 (SrcV.below HS1.out D.out) hs (by omega)
  go_wp2_with fail
  refine (hst).mono ?_
  rintro e w2 ⟨vA, rfl, ht, hb⟩
  have D := Lib.hid (below_on D.out hb)
  clear hb hst
  have hhe := heard_any vA 5000 w2 ht (by omega) (by omega) (by omega)
  clear ht
  rw [show ((5000 : Nat) : Int) = 5000 from rfl, List.take_of_length_le (show (sen ls).length ≤ 5000 by omega)] at hhe
  go_wp2_with fail
  refine (hhe).mono ?_
  rintro e w3 ⟨bA, NA, cA, rfl, hp, hb⟩
  have D := Lib.hid (below_on D.out hb)
  clear hb hhe
  have PA := Lib.hid hp
  have TA := Lib.hid (Below.refl w3.heap.size w3)
  clear hp
  have hdo := sentences5_any a n c' ls w3 (SrcV.below HS1.out D.out) hs (by omega)
  go_wp2_with fail
  refine (hdo).mono ?_
  rintro e w4 ⟨bW, NW, cW, rfl, hp, hb⟩
  have D := Lib.hid (below_on D.out hb)
  have TA := Lib.hid (below_on TA.out hb)
  clear hb hdo
  have PW := Lib.hid hp
  have TW := Lib.hid (Below.refl w4.heap.size w4)
  clear hp
  have hst := Sentences_tells a n c' ls w4 (SrcV.below HS1.out D.out) hs (by omega)
  go_wp2_with fail
  refine (hst).mono ?_
  rintro e w5 ⟨vC, rfl, ht, hb⟩
  have D := Lib.hid (below_on D.out hb)
  have TA := Lib.hid (below_on TA.out hb)
  have TW := Lib.hid (below_on TW.out hb)
  clear hb hst
  have hhe := heard_any vC K w5 ht (by omega) (by omega) (by omega)
  clear ht
  go_wp2_with fail
  refine (hhe).mono ?_
  rintro e w6 ⟨bC, NC, cC, rfl, hp, hb⟩
  have D := Lib.hid (below_on D.out hb)
  have TA := Lib.hid (below_on TA.out hb)
  have TW := Lib.hid (below_on TW.out hb)
  clear hb hhe
  have PC := Lib.hid hp
  have TC := Lib.hid (Below.refl w6.heap.size w6)
  clear hp
  have lW := PW.out.length
  have lA := PA.out.length
  obtain ⟨S1, hS1, hS2⟩ : ∃ S1 : Nat, min (K : Int) (NW : Int) = (S1 : Int) ∧ S1 = min K NW := ⟨min K NW, by omega, rfl⟩
  have i1 : (if (NW : Int) < (K : Int) then (NW : Int) else (K : Int)) = (S1 : Int) := by omega
  have i3 : (if NW < K then (NW : Int) else (K : Int)) = (S1 : Int) := by split <;> omega
  have u1 : S1 ≤ NW := by omega
  have uW := PW.out.le_cap
  have tW : (sen ls).take K = (sen ls).take S1 := by rw [hS2, ← lW, take_min]
  rw [tW] at PC
  have hNA : NA ≤ 1240 := by omega
  have LA := Lib.hid lA
  clear tW hS2 lS lW lA
  go_wp2
  go_loopw [11] (fun i wr => ∃ j : Nat, 1 ≤ j ∧ (j ≤ NA ∨ j = 1) ∧ i = .int .i64 j ∧ Hid (Below w6.heap.size w6 wr)) (fun i _ => NA + 1 - (RowKit.intOf i).toNat)
  case atStart => exact ⟨1, Nat.le_refl _, .inr rfl, rfl, Below.refl _ _⟩
  case round =>
    obtain ⟨j, hj1, hjA, rfl, HW⟩ := hrel
    by_cases hjn : j < NA
    · have hso := sorted_at (sen_sorted ls) (i := j - 1) (j := j) (by omega) (by have := LA.out; omega)
      obtain ⟨bb, oo, rfl, x0, x1, hnc⟩ := PA.out.read (j - 1) (by have := LA.out; omega)
      obtain ⟨bb', oo', he', y0, y1, _⟩ := PA.out.read j (by have := LA.out; omega)
      obtain ⟨rfl, rfl⟩ := bw_opt he'
      obtain ⟨p, hp⟩ : ∃ p : P2, p = (sen ls)[j - 1]'(by have := LA.out; omega) := ⟨_, rfl⟩
      obtain ⟨q', hq'⟩ : ∃ q' : P2, q' = (sen ls)[j]'(by have := LA.out; omega) := ⟨_, rfl⟩
      obtain ⟨m, hm⟩ : ∃ m, m = j - 1 := ⟨_, rfl⟩
      rw [← hp, ← hq'] at hso
      rw [← hp, ← hm] at x0 x1
      rw [← hq'] at y0 y1
      have hb := below_on (below_on TA.out HW.out) (Below.refl _ _)
      have p0 := cell_later hb x0
      have p1 := cell_later hb x1
      have q0 := cell_later hb y0
      have q1 := cell_later hb y1
      have hwm : IntKind.i64.wrap ((j : Int) - 1) = (m : Int) := by rw [IntKind.wrap_i64]; omega
      have hmn : m < NA := by omega
      have hls := fun z : Gr wr => So.less5_any p.1 p.2 q'.1 q'.2 z.W
      rw [show So.lt p.1 p.2 q'.1 q'.2 = true from hso] at hls
      have HJ := Lib.hid (And.intro hj1 hjA)
      clear he' hp hq' hm x0 x1 y0 y1 hb hso hj1 hjA
      go_wp2_with fail
      have f0 := fun z : Gr wr => z.cell p0
      have f1 := fun z : Gr wr => z.cell p1
      have f2 := fun z : Gr wr => z.cell q0
      have f3 := fun z : Gr wr => z.cell q1
      clear p0 p1 q0 q1
      refine wp_region_grow (by kernel_rfl) (by kernel_rfl) ?_
      repeat (go_big_quiet_step (first | (go_at_call 20; exact Calls.grow_of (hls _))))
      refine wpQuiet_nil ?_
      rintro W2 ⟨⟨_, hb2⟩, rfl⟩
      clear f0 f1 f2 f3 hls
      have HO := Lib.hid (below_on HW.out hb2)
      clear hb2
      go_wp2
      go_roundw
      case rel => exact ⟨j + 1, by omega, .inl (by omega), by go_num, HO⟩
      case measure => have := HJ.out; simp [RowKit.intOf]; omega
    · have hle : ¬ (j : Int) < (NA : Int) := by omega
      clear hjA hj1
      have D := Lib.hid (below_on D.out HW.out)
      have TA := Lib.hid (below_on TA.out HW.out)
      have TW := Lib.hid (below_on TW.out HW.out)
      have TC := Lib.hid (below_on TC.out HW.out)
      clear HW hjn
      cases bW with
      | none =>
        obtain ⟨h0, h00, nW⟩ := Ps.none_zero PW.out
        subst h0 h00
        obtain rfl : S1 = 0 := by omega
        have hpl := places_same bA NA cA none 0 0 (sen ls) wr (PA.out.below TA.out) (PW.out.below TW.out)
        have HU := Lib.hid (And.intro u1 uW)
        go_wp2_with fail
        refine (hpl).mono ?_
        rintro e w8 ⟨rfl, hb⟩
        have D := Lib.hid (below_on D.out hb)
        have TA := Lib.hid (below_on TA.out hb)
        have TW := Lib.hid (below_on TW.out hb)
        have TC := Lib.hid (below_on TC.out hb)
        clear hb hpl
        have hpl := places_same bC NC cC none 0 0 ((sen ls).take 0) w8 (PC.out.below TC.out) (by rw [nW, List.take_nil]; exact Ps.nil _)
        go_wp2_with fail
        refine (hpl).mono ?_
        rintro e w9 ⟨rfl, hb⟩
        have D := Lib.hid (below_on D.out hb)
        have TA := Lib.hid (below_on TA.out hb)
        have TW := Lib.hid (below_on TW.out hb)
        have TC := Lib.hid (below_on TC.out hb)
        clear hb hpl
        go_wp2
        go_ret
        exact ⟨rfl, below_on HB1.out D.out⟩
      | some aW =>
        have hpl := places_same bA NA cA (some aW) NW cW (sen ls) wr (PA.out.below TA.out) (PW.out.below TW.out)
        have HU := Lib.hid (And.intro u1 uW)
        go_wp2_with fail
        refine (hpl).mono ?_
        rintro e w8 ⟨rfl, hb⟩
        have D := Lib.hid (below_on D.out hb)
        have TA := Lib.hid (below_on TA.out hb)
        have TW := Lib.hid (below_on TW.out hb)
        have TC := Lib.hid (below_on TC.out hb)
        clear hb hpl
        have hpl := places_same bC NC cC (some aW) S1 cW ((sen ls).take S1) w8 (PC.out.below TC.out) ((PW.out.below TW.out).take u1)
        go_wp2_with fail
        refine (hpl).mono ?_
        rintro e w9 ⟨rfl, hb⟩
        have D := Lib.hid (below_on D.out hb)
        have TA := Lib.hid (below_on TA.out hb)
        have TW := Lib.hid (below_on TW.out hb)
        have TC := Lib.hid (below_on TC.out hb)
        clear hb hpl
        go_wp2
        go_ret
        exact ⟨rfl, below_on HB1.out D.out⟩
end Go.Proofs.Ytpdbfdhfonfbeaa.GSen
