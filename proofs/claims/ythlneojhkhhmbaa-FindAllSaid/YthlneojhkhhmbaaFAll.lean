/-
  The law FindAll, walked.
-/
import Derived.Test.YthlneojhkhhmbaaFn
import Derived.Test.YthlneojhkhhmbaaMo
import Derived.Test.YthlneojhkhhmbaaFa
set_option linter.unusedVariables false
set_option linter.unusedSimpArgs false
set_option maxRecDepth 100000
namespace Go.Proofs.Ythlneojhkhhmbaa.FAll
open Go Go.RowKit Go.Proofs.Ythlneojhkhhmbaa.Vk Go.Proofs.Ythlneojhkhhmbaa.Str Go.Proofs.Ythlneojhkhhmbaa.Ln Go.Proofs.Ythlneojhkhhmbaa.Cl Go.Proofs.Ythlneojhkhhmbaa.Mv Go.Proofs.Ythlneojhkhhmbaa.Wd Go.Proofs.Ythlneojhkhhmbaa.Fd
attribute [local go_sem] Oper.semAt_some
set_option maxHeartbeats 8000000

theorem _root_.Go.Proofs.Ythlneojhkhhmbaa.Wd.Ps.none_zero {w : World} {n c : Nat} {l : List P2} (h : Ps w none n c l) : n = 0 ∧ c = 0 ∧ l = [] := by
  have hl := h.length
  obtain ⟨_, _, _, ⟨ao, he, h0⟩ | ⟨b, o, c', he, _⟩⟩ := h
  · injection he with _ e2 e3
    exact ⟨e2, e3, List.eq_nil_of_length_eq_zero (by omega)⟩
  · cases he
theorem _root_.Go.Proofs.Ythlneojhkhhmbaa.Wd.Ps.le_cap {w : World} {a : Option Addr} {n c : Nat} {l : List P2} (h : Ps w a n c l) : n ≤ c ∧ c ≤ 9223372036854775807 := by
  obtain ⟨_, _, _, ⟨ao, he, h0⟩ | ⟨b, o, c', he, hc, hm, _⟩⟩ := h
  · injection he with _ e2 e3; omega
  · injection he with _ e2 e3
    subst e3
    exact ⟨hc, hm⟩
theorem _root_.Go.Proofs.Ythlneojhkhhmbaa.Wd.Ps.take {w : World} {ad : Addr} {n c k : Nat} {l : List P2} (h : Ps w (some ad) n c l) (hk : k ≤ n) : Ps w (some ad) k c (l.take k) := by
  have hl := h.length
  have hf : flat (l.take k) = (flat l).take (k * 2) := by
    conv => rhs; rw [← List.take_append_drop k l, flat_append]
    rw [List.take_left' (by rw [flat_length, List.length_take]; omega)]
  obtain ⟨h1, h2, h3, ⟨ao, he, h0⟩ | ⟨b, o, c', he, hc, hm, hcell⟩⟩ := h
  · injection he with e1 e2 e3
    refine ⟨by rw [flat_length, List.length_take]; omega, fun u hu => h2 u (by rw [hf] at hu; exact List.mem_of_mem_take hu), by omega, .inl ⟨some ad, by rw [e3, show k = 0 by omega], by omega⟩⟩
  · injection he with e1 e2 e3
    subst e3
    refine ⟨by rw [flat_length, List.length_take]; omega, fun u hu => h2 u (by rw [hf] at hu; exact List.mem_of_mem_take hu), by omega, .inr ⟨b, o, c, by rw [e1], by omega, hm, fun j u hu => hcell j u ?_⟩⟩
    rw [hf] at hu
    rw [List.getElem?_take] at hu
    split at hu
    · exact hu
    · cases hu
theorem take_min (l : List P2) (K : Nat) : l.take (min K l.length) = l.take K := by
  by_cases h : K ≤ l.length
  · rw [Nat.min_eq_left h]
  · rw [Nat.min_eq_right (by omega), List.take_of_length_le (Nat.le_refl _), List.take_of_length_le (by omega)]

theorem all5_n (a : Option Addr) (n c : Nat) (ls : List ByteArray) (pt : ByteArray) (w : World) (h : Ss w a n c ls) (hs : ∀ s ∈ ls, s.size ≤ 140737488355328) (hp : pt.size ≤ 140737488355328) (htz : tz ls ≤ 900000) :
    Calls Try.prog 14 #[.slice a n c, .string pt] w fun e w' => ∃ b N cc, e = .returned (.slice b N cc) ∧ Ps w' b N cc (pls pt ls) ∧ Below w.heap.size w w' :=
  (all5_any a n c ls pt w h hs hp htz).mono fun e w' ⟨b, cc, h1, h2, h3⟩ => ⟨b, _, cc, h1, h2, h3⟩
theorem walk (a : Option Addr) (n c' : Nat) (ls : List ByteArray) (pt : ByteArray) (x y q r : Int) (w : World) (h : Ss w a n c' ls) (hs : ∀ s ∈ ls, s.size ≤ 140737488355328) (hp0 : pt.size ≤ 140737488355328) (hx : (Lit.int .u16 x).wf = true) (hy : (Lit.int .u16 y).wf = true) (hq0 : (Lit.int .u8 q).wf = true) (hr0 : (Lit.int .u8 r).wf = true) :
    Calls Try.prog 3 #[.slice a n c', .string pt, .int .u16 x, .int .u16 y, .int .u8 q, .int .u8 r] w fun e w' => e = .returned (.bool true) ∧ Below w.heap.size w w' := by
  have hk := known_any w
  have x2 : 0 ≤ x ∧ x ≤ 65535 := by simpa [Lit.wf, IntKind.min, IntKind.max, IntKind.signed, IntKind.bits] using hx
  have y2 : 0 ≤ y ∧ y ≤ 65535 := by simpa [Lit.wf, IntKind.min, IntKind.max, IntKind.signed, IntKind.bits] using hy
  have q2 : 0 ≤ q ∧ q ≤ 255 := by simpa [Lit.wf, IntKind.min, IntKind.max, IntKind.signed, IntKind.bits] using hq0
  obtain ⟨J, hJ, hJ5⟩ : ∃ J : Nat, q % 5 = (J : Int) ∧ J < 5 := ⟨(q % 5).toNat, by omega, by omega⟩
  have hJt : q.tmod 5 = (J : Int) := by rw [Int.tmod_eq_emod_of_nonneg q2.1]; exact hJ
  have hwJ : IntKind.i64.wrap (J : Int) = (J : Int) := by rw [IntKind.wrap_i64]; omega
  have r2 : 0 ≤ r ∧ r ≤ 255 := by simpa [Lit.wf, IntKind.min, IntKind.max, IntKind.signed, IntKind.bits] using hr0
  obtain ⟨G, hG, hG5⟩ : ∃ G : Nat, r % 9 = (G : Int) ∧ G < 9 := ⟨(r % 9).toNat, by omega, by omega⟩
  have hGt : r.tmod 9 = (G : Int) := by rw [Int.tmod_eq_emod_of_nonneg r2.1]; exact hG
  have hwG : IntKind.i64.wrap (G : Int) = (G : Int) := by rw [IntKind.wrap_i64]; omega
  obtain ⟨K, hK1, hK2⟩ : ∃ K, G + 1 ≤ K ∧ K ≤ G + 1 := ⟨G + 1, by omega, by omega⟩
  have hwK : IntKind.i64.wrap ((G : Int) + 1) = (K : Int) := by rw [IntKind.wrap_i64]; omega
  go_enter Try.func3, Try.ntmps3
  go_wp2_with fail
  refine hk.mono ?_
  rintro e w1 ⟨rfl, hb1⟩
  have hs1 := SrcV.below h hb1
  have HB1 := Lib.hid hb1
  have htx := text_any a n c' ls w1 hs1 hs
  have HS1 := Lib.hid hs1
  clear hk hb1 h hs1
  go_wp2_with fail
  refine htx.mono ?_
  rintro e w' ⟨qq, rfl, rfl, hq⟩
  clear htx
  cases qq
  · clear hq
    go_wp2
    go_ret
    exact ⟨rfl, HB1.out⟩
  obtain ⟨hn0, hn40, hz, _⟩ := hq rfl
  clear hq
  by_cases h60 : 60 < pt.size
  · have d0 : decide (60 < pt.size) = true := decide_eq_true h60
    have d1 : decide ((60 : Int) < (pt.size : Int)) = true := decide_eq_true (by omega)
    clear h60
    go_wp2
    go_ret
    exact ⟨rfl, HB1.out⟩
  have d0 : decide (60 < pt.size) = false := decide_eq_false h60
  have d1 : decide ((60 : Int) < (pt.size : Int)) = false := decide_eq_false (by omega)
  have hptz : pt.size ≤ 60 := by omega
  clear h60
  have hse := seat_any a n c' ls x y w1 HS1.out hn0 hs x2 y2
  go_wp2_with fail
  refine hse.mono ?_
  rintro e w2 ⟨⟨i, m, rfl, hi, hm⟩, hb⟩
  have D := Lib.hid hb
  clear hse hb
  clear d0 d1
  go_upto_region 6 with fail
  obtain ⟨x2, hx2⟩ : ∃ x2, x2 = w2.alloc (.cells #[.int .i64 (i : Int), .int .i64 (m : Int)] 27) := ⟨_, rfl⟩
  have hA : Below w2.heap.size w2 x2 := by rw [hx2]; exact (Below.refl _ w2).alloc (Nat.le_refl _) _
  have hV := PosAt.new w2 (i : Int) (m : Int)
  rw [← hx2] at hV ⊢
  have gg_D := D.out.size
  have D := Lib.hid (below_on D.out hA)
  obtain ⟨b_P, hbf⟩ : ∃ b, b = w2.heap.size := ⟨_, rfl⟩
  rw [← hbf] at hV ⊢
  have g_P_D := Lib.hid (show w1.heap.size ≤ b_P by rw [hbf]; exact gg_D)
  clear gg_D
  have P := Lib.hid hV
  clear hV hA hx2 hbf
  have c_P := P.out
  have P0 := c_P.c0
  have P1 := c_P.c1
  clear c_P
  have hlen := Ss.length HS1.out
  have hin : lineAt ls i ∈ ls := by rw [lineAt_get (by omega)]; exact List.getElem_mem _
  have hsz : (lineAt ls i).size + 1 ≤ tz ls := tz_mem _ _ hin
  obtain ⟨bs, os, ha, hcell, hnc, _⟩ := Ss.read HS1.out i (by omega)
  rw [← lineAt_get (by omega)] at hcell
  subst ha
  obtain ⟨st, hst⟩ : ∃ st, st = lineAt ls i := ⟨_, rfl⟩
  rw [← hst] at hcell hsz hm
  have fL := fun y : Gr x2 => y.cell (cell_later D.out hcell)
  have fP0 := fun y : Gr x2 => y.cell P0
  have fP1 := fun y : Gr x2 => y.cell P1
  have z0 : (m : Int) ≤ (st.size : Int) := by omega
  have HST := Lib.hid hst
  clear hst hin hcell hlen
  clear P0 P1
  refine wp_region_grow (by kernel_rfl) (by kernel_rfl) ?_
  repeat (go_big_quiet_step (fail))
  refine wpQuiet_nil ?_
  rintro w3 ⟨⟨_, hb⟩, rfl⟩
  clear fL fP0 fP1 z0
  obtain ⟨s1, hs1⟩ : ∃ s, s = st.extract m st.size := ⟨_, rfl⟩
  rw [← hs1]
  have D := Lib.hid (below_on D.out hb)
  have P := Lib.hid (P.out.below hb P.out.lt)
  clear hb
  obtain ⟨Z, hZ⟩ : ∃ Z : Nat, Z = min J s1.size := ⟨_, rfl⟩
  have i1 : min (J : Int) (s1.size : Int) = (Z : Int) := by omega
  have i2 : (if (s1.size : Int) < (J : Int) then (s1.size : Int) else (J : Int)) = (Z : Int) := by omega
  have i3 : (if s1.size < J then (s1.size : Int) else (J : Int)) = (Z : Int) := by split <;> omega
  have i4 : min J s1.size = Z := hZ.symm
  have z1 : (Z : Int) ≤ (s1.size : Int) := by omega
  have z2 : Z ≤ s1.size := by omega
  obtain ⟨t2, ht2⟩ : ∃ s, s = s1.extract 0 Z := ⟨_, rfl⟩
  have hz2 : t2.size ≤ 1000 := by
    have h1 : t2.data.toList = (s1.data.toList.take Z) := by rw [ht2, ext_upto]
    have h2 := congrArg List.length h1
    rw [size_str, List.length_take, size_str] at h2
    omega
  have HZ := Lib.hid (And.intro hZ (And.intro hs1 ht2))
  clear hZ hs1 ht2
  go_upto_region 8 with fail
  rw [← HZ.out.2.2]
  clear i1 i2 i3 i4 z1 z2
  go_wp2
  obtain ⟨x4, hx4⟩ : ∃ x4, x4 = w3.alloc (.cells #[.string pt, .string t2] 9) := ⟨_, rfl⟩
  have hA : Below w3.heap.size w3 x4 := by rw [hx4]; exact (Below.refl _ w3).alloc (Nat.le_refl _) _
  have hV := RowAt.new w3 #[.string pt, .string t2] 9
  rw [← hx4] at hV ⊢
  have gg_D := D.out.size
  have D := Lib.hid (below_on D.out hA)
  obtain ⟨b_Q, hbf⟩ : ∃ b, b = w3.heap.size := ⟨_, rfl⟩
  rw [← hbf] at hV ⊢
  have g_Q_D := Lib.hid (show w1.heap.size ≤ b_Q by rw [hbf]; exact gg_D)
  clear gg_D
  have Q := Lib.hid hV
  clear hV hA hx4 hbf
  go_loopw [56] (fun i wr => ∃ k : Nat, k ≤ 2 ∧ i = .int .i64 k ∧ Hid (Below w1.heap.size w1 wr ∧ Below x4.heap.size x4 wr)) (fun i _ => 2 - (RowKit.intOf i).toNat)
  case atStart => exact ⟨0, by omega, rfl, D.out, Below.refl _ _⟩
  case round =>
    obtain ⟨k, hk2, rfl, DE⟩ := hrel
    clear D
    have D := Lib.hid DE.out.1
    have E := Lib.hid DE.out.2
    clear DE
    by_cases hk : k < 2
    rotate_left
    · obtain rfl : k = 2 := by omega
      go_wp2
      go_ret
      exact ⟨rfl, below_on HB1.out D.out⟩
    obtain ⟨t, htc, htz⟩ : ∃ t : ByteArray, wr.cell? ⟨b_Q, k, none⟩ = some (.string t) ∧ t.size ≤ 1000 := by
      have q := Q.out.below E.out Q.out.lt
      obtain rfl | rfl : k = 0 ∨ k = 1 := by omega
      · exact ⟨pt, q.at (k := 0) rfl, by omega⟩
      · exact ⟨t2, q.at (k := 1) rfl, hz2⟩
    have HK := Lib.hid hk
    have lS : (pls t ls).length ≤ 1240 := Nat.le_trans (pls_tz _ _) hz
    have hst := All_tells _ n c' ls t wr (SrcV.below HS1.out D.out) hs (by omega)
    go_wp2_with fail
    refine (hst).mono ?_
    rintro e v2 ⟨vA, rfl, ht, hb⟩
    have D := Lib.hid (below_on D.out hb)
    have E := Lib.hid (below_on E.out hb)
    clear hb hst htc
    rename (k : Int) < 2 => hki
    clear hki hk
    have hhe := heard_any vA 5000 v2 ht (by omega) (by omega) (by omega)
    clear ht
    rw [show ((5000 : Nat) : Int) = 5000 from rfl, List.take_of_length_le (show (pls t ls).length ≤ 5000 by omega)] at hhe
    go_wp2_with fail
    refine (hhe).mono ?_
    rintro e v3 ⟨bA, NA, cA, rfl, hp, hb⟩
    have D := Lib.hid (below_on D.out hb)
    have E := Lib.hid (below_on E.out hb)
    clear hb hhe
    have PA := Lib.hid hp
    have TA := Lib.hid (Below.refl v3.heap.size v3)
    clear hp
    have hdo := all5_n _ n c' ls t v3 (SrcV.below HS1.out D.out) hs (by omega) (by omega)
    go_wp2_with fail
    refine (hdo).mono ?_
    rintro e v4 ⟨bW, NW, cW, rfl, hp, hb⟩
    have D := Lib.hid (below_on D.out hb)
    have E := Lib.hid (below_on E.out hb)
    have TA := Lib.hid (below_on TA.out hb)
    clear hb hdo
    have PW := Lib.hid hp
    have TW := Lib.hid (Below.refl v4.heap.size v4)
    clear hp
    have hst := All_tells _ n c' ls t v4 (SrcV.below HS1.out D.out) hs (by omega)
    go_wp2_with fail
    refine (hst).mono ?_
    rintro e v5 ⟨vC, rfl, ht, hb⟩
    have D := Lib.hid (below_on D.out hb)
    have E := Lib.hid (below_on E.out hb)
    have TA := Lib.hid (below_on TA.out hb)
    have TW := Lib.hid (below_on TW.out hb)
    clear hb hst
    have hhe := heard_any vC K v5 ht (by omega) (by omega) (by omega)
    clear ht
    go_wp2_with fail
    refine (hhe).mono ?_
    rintro e v6 ⟨bC, NC, cC, rfl, hp, hb⟩
    have D := Lib.hid (below_on D.out hb)
    have E := Lib.hid (below_on E.out hb)
    have TA := Lib.hid (below_on TA.out hb)
    have TW := Lib.hid (below_on TW.out hb)
    clear hb hhe
    have PC := Lib.hid hp
    have TC := Lib.hid (Below.refl v6.heap.size v6)
    clear hp
    have hpl := places_same bA NA cA bW NW cW (pls t ls) v6 (PA.out.below TA.out) (PW.out.below TW.out)
    go_wp2_with fail
    refine (hpl).mono ?_
    rintro e v7 ⟨rfl, hb⟩
    have D := Lib.hid (below_on D.out hb)
    have E := Lib.hid (below_on E.out hb)
    have TA := Lib.hid (below_on TA.out hb)
    have TW := Lib.hid (below_on TW.out hb)
    have TC := Lib.hid (below_on TC.out hb)
    clear hb hpl
    have lW := PW.out.length
    obtain ⟨S1, hS1, hS2⟩ : ∃ S1 : Nat, min (K : Int) (NW : Int) = (S1 : Int) ∧ S1 = min K NW := ⟨min K NW, by omega, rfl⟩
    have i1 : (if (NW : Int) < (K : Int) then (NW : Int) else (K : Int)) = (S1 : Int) := by omega
    have i3 : (if NW < K then (NW : Int) else (K : Int)) = (S1 : Int) := by split <;> omega
    have u1 : S1 ≤ NW := by omega
    have uW := PW.out.le_cap
    have tW : (pls t ls).take K = (pls t ls).take S1 := by rw [hS2, ← lW, take_min]
    rw [tW] at PC
    clear tW hS2 lS
    cases bW with
    | none =>
      obtain ⟨h0, h00, nW⟩ := Ps.none_zero PW.out
      subst h0 h00
      obtain rfl : S1 = 0 := by omega
      have HU := Lib.hid (And.intro u1 uW)
      have hpl := places_same bC NC cC none 0 0 ((pls t ls).take 0) v7 (PC.out.below TC.out) (by rw [nW, List.take_nil]; exact Ps.nil _)
      go_wp2_with fail
      refine (hpl).mono ?_
      rintro e y1 ⟨rfl, hb⟩
      have D := Lib.hid (below_on D.out hb)
      have E := Lib.hid (below_on E.out hb)
      have TA := Lib.hid (below_on TA.out hb)
      have TW := Lib.hid (below_on TW.out hb)
      have TC := Lib.hid (below_on TC.out hb)
      clear hb hpl
      go_wp2
      go_roundw
      case rel => exact ⟨k + 1, by have := HK.out; omega, by go_num, D.out, E.out⟩
      case measure => have := HK.out; simp [RowKit.intOf]; omega
    | some aW =>
      have HU := Lib.hid (And.intro u1 uW)
      have hpl := places_same bC NC cC (some aW) S1 cW ((pls t ls).take S1) v7 (PC.out.below TC.out) ((PW.out.below TW.out).take u1)
      go_wp2_with fail
      refine (hpl).mono ?_
      rintro e y1 ⟨rfl, hb⟩
      have D := Lib.hid (below_on D.out hb)
      have E := Lib.hid (below_on E.out hb)
      have TA := Lib.hid (below_on TA.out hb)
      have TW := Lib.hid (below_on TW.out hb)
      have TC := Lib.hid (below_on TC.out hb)
      clear hb hpl
      go_wp2
      go_roundw
      case rel => exact ⟨k + 1, by have := HK.out; omega, by go_num, D.out, E.out⟩
      case measure => have := HK.out; simp [RowKit.intOf]; omega
end Go.Proofs.Ythlneojhkhhmbaa.FAll
