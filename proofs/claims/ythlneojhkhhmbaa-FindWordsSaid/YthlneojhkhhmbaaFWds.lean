/-
  The law FindWords, walked.
-/
import Derived.Test.YthlneojhkhhmbaaFn
import Derived.Test.YthlneojhkhhmbaaMo
set_option linter.unusedVariables false
set_option linter.unusedSimpArgs false
set_option maxRecDepth 100000
namespace Go.Proofs.Ythlneojhkhhmbaa.FWds
open Go Go.RowKit Go.Proofs.Ythlneojhkhhmbaa.Vk Go.Proofs.Ythlneojhkhhmbaa.Str Go.Proofs.Ythlneojhkhhmbaa.Ln Go.Proofs.Ythlneojhkhhmbaa.Cl Go.Proofs.Ythlneojhkhhmbaa.Mv Go.Proofs.Ythlneojhkhhmbaa.Wd Go.Proofs.Ythlneojhkhhmbaa.Fd
attribute [local go_sem] Oper.semAt_some
set_option maxHeartbeats 8000000

theorem word_facts {st : ByteArray} {c : Nat} (hc : c ≤ st.size) (hF : wF st c < st.size) : wB st c ≤ wF st c ∧ wF st c < wE st c ∧ wE st c ≤ st.size ∧ c ≤ wF st c ∧ (∀ j, wB st c ≤ j → j < wE st c → ltr st j = true) ∧ (wE st c < st.size → ltr st (wE st c) = false) ∧ (0 < wB st c → ltr st (wB st c - 1) = false) ∧ ∀ j, c ≤ j → j < wF st c → ltr st j = false := by
  obtain ⟨a1, a2, a3, a4⟩ := fwd_ge (ltr st) st.size _ c (Nat.le_refl _)
  have aF : fwd (ltr st) st.size c = wF st c := rfl
  rw [aF] at a1 a2 a3 a4
  obtain ⟨b1, b2, b3, b4⟩ := fwd_ge (fun j => !ltr st j) st.size _ (wF st c) (Nat.le_refl _)
  have bE : fwd (fun j => !ltr st j) st.size (wF st c) = wE st c := rfl
  rw [bE] at b1 b2 b3 b4
  obtain ⟨d1, d2, d3⟩ := bwd_le (ltr st) (wF st c)
  have dB : bwd (ltr st) (wF st c) = wB st c := rfl
  rw [dB] at d1 d2 d3
  have hlt : wF st c < wE st c := by
    rcases Nat.lt_or_ge (wF st c) (wE st c) with h | h
    · exact h
    · have e : wE st c = wF st c := by omega
      have := b3 (by omega)
      rw [e, a3 hF] at this
      cases this
  refine ⟨d1, hlt, b2 (by omega), a1, fun j h1 h2 => ?_, fun h => ?_, d2, a4⟩
  · rcases Nat.lt_or_ge j (wF st c) with h | h
    · exact d3 j h1 h
    · have := b4 j h h2
      simpa using this
  · have := b3 h
    simpa using this
theorem kl_ext {st : ByteArray} {B E j : Nat} (hE : E ≤ st.size) (hj : B + j < E) : kl (st.extract B E) false j = kl st false (B + j) := by
  unfold kl
  have h : (st.extract B E).data.toList.getD j 0 = st.data.toList.getD (B + j) 0 := by
    rw [ext_list, List.getD_eq_getElem?_getD, List.getD_eq_getElem?_getD, List.getElem?_drop, List.getElem?_take_of_lt hj]
  rw [h]
theorem kl_one {st : ByteArray} {j : Nat} (h : ltr st j = true) : kl st false j = 1 := of_decide_eq_true h
theorem kl_ne {st : ByteArray} {j : Nat} (h : ltr st j = false) : (kl st false j == 1) = false := by rw [beq_eq_false_iff_ne]; exact of_decide_eq_false h
theorem kl_lt {st : ByteArray} {j : Nat} (h : ltr st j = true) : j < st.size := by
  rcases Nat.lt_or_ge j st.size with h1 | h1
  · exact h1
  · have h2 := kl_one h
    unfold kl at h2
    rw [List.getD_eq_getElem?_getD, List.getElem?_eq_none (by rw [size_str]; omega)] at h2
    exact absurd h2 (by decide)

theorem walk (a : Option Addr) (n c' : Nat) (ls : List ByteArray) (x y : Int) (w : World) (h : Ss w a n c' ls) (hs : ∀ s ∈ ls, s.size ≤ 140737488355328) (hx : (Lit.int .u16 x).wf = true) (hy : (Lit.int .u16 y).wf = true) :
    Calls Try.prog 8 #[.slice a n c', .int .u16 x, .int .u16 y] w fun e w' => e = .returned (.bool true) ∧ Below w.heap.size w w' := by
  have hk := known_any w
  have x2 : 0 ≤ x ∧ x ≤ 65535 := by simpa [Lit.wf, IntKind.min, IntKind.max, IntKind.signed, IntKind.bits] using hx
  have y2 : 0 ≤ y ∧ y ≤ 65535 := by simpa [Lit.wf, IntKind.min, IntKind.max, IntKind.signed, IntKind.bits] using hy
  go_enter Try.func8, Try.ntmps8
  go_wp2_with fail
  refine hk.mono ?_
  rintro e w1 ⟨rfl, hb1⟩
  have hs1 := SrcV.below h hb1
  have HB1 := Lib.hid hb1
  have htx := text_any a n c' ls w1 hs1 hs
  have HS1 := Lib.hid hs1
  clear hk hb1 h hs1
  go_wp2_with fail
  refine htx.mono ?_
  rintro e w' ⟨qq, rfl, rfl, hq⟩
  clear htx
  cases qq
  · clear hq
    go_wp2
    go_ret
    exact ⟨rfl, HB1.out⟩
  obtain ⟨hn0, hn40, hz, _⟩ := hq rfl
  clear hq
  have hse := seat_any a n c' ls x y w1 HS1.out hn0 hs x2 y2
  go_wp2_with fail
  refine hse.mono ?_
  rintro e w2 ⟨⟨i, m, rfl, hi, hm⟩, hb⟩
  have D := Lib.hid hb
  clear hse hb
  go_upto_region 6 with fail
  obtain ⟨x2, hx2⟩ : ∃ x2, x2 = w2.alloc (.cells #[.int .i64 (i : Int), .int .i64 (m : Int)] 27) := ⟨_, rfl⟩
  have hA : Below w2.heap.size w2 x2 := by rw [hx2]; exact (Below.refl _ w2).alloc (Nat.le_refl _) _
  have hV := PosAt.new w2 (i : Int) (m : Int)
  rw [← hx2] at hV ⊢
  have gg_D := D.out.size
  have D := Lib.hid (below_on D.out hA)
  obtain ⟨b_P, hbf⟩ : ∃ b, b = w2.heap.size := ⟨_, rfl⟩
  rw [← hbf] at hV ⊢
  have g_P_D := Lib.hid (show w1.heap.size ≤ b_P by rw [hbf]; exact gg_D)
  clear gg_D
  have P := Lib.hid hV
  clear hV hA hx2 hbf
  have c_P := P.out
  have P0 := c_P.c0
  have P1 := c_P.c1
  clear c_P
  have hlen := Ss.length HS1.out
  have hin : lineAt ls i ∈ ls := by rw [lineAt_get (by omega)]; exact List.getElem_mem _
  have hsz : (lineAt ls i).size + 1 ≤ tz ls := tz_mem _ _ hin
  obtain ⟨bs, os, ha, hcell, hnc, _⟩ := Ss.read HS1.out i (by omega)
  rw [← lineAt_get (by omega)] at hcell
  subst ha
  have hP : Plc ls (i : Int) (m : Int) := (plc_nat (by omega)).2 hm
  obtain ⟨st, hst⟩ : ∃ st, st = lineAt ls i := ⟨_, rfl⟩
  rw [← hst] at hcell hsz hm
  have c3 := cell_later D.out hcell
  have hwd := fun W (hW : Below w1.heap.size w1 W) => word_any _ n c' ls i m W (SrcV.below HS1.out hW) hs
  have HST := Lib.hid (And.intro hst hP)
  have hst9 : st.size ≤ 1240 := by omega
  clear hst hin hcell hlen hP hsz
  go_upto_region 7 with fail
  clear c3
  by_cases hF : wF st m < st.size
  rotate_left
  · have hwr : wdR ls i m = W3.no := by
      unfold wdR
      rw [Int.toNat_natCast, Int.toNat_natCast, ← HST.out.1]
      exact if_neg fun hh => hF hh.2
    rw [hwr] at hwd
    dsimp only [W3.no, W3.v] at hwd
    obtain ⟨a1, a2, a3, a4⟩ := fwd_ge (ltr st) st.size _ m (Nat.le_refl _)
    have hall := Lib.hid (show ∀ j, m ≤ j → j < st.size → ltr st j = false from fun j h1 h2 => a4 j h1 (Nat.lt_of_lt_of_le h2 (Nat.le_of_not_lt hF)))
    have he1 := fun W => Mv.eq_pos 0 0 0 0 W
    simp only [decide_true, Bool.and_self] at he1
    clear hwr a1 a2 a3 a4 hF
    go_wp2_with fail
    refine (hwd _ D.out).mono ?_
    rintro e v1 ⟨rfl, hb⟩
    clear P0 P1
    have D := Lib.hid (below_on D.out hb)
    have P := Lib.hid (P.out.below hb P.out.lt)
    clear hb hwd
    go_upto_region 8 with fail
    obtain ⟨y1, hy1⟩ : ∃ y1, y1 = v1.alloc (.cells #[.int .i64 0, .int .i64 0] 27) := ⟨_, rfl⟩
    have hA : Below v1.heap.size v1 y1 := by rw [hy1]; exact (Below.refl _ v1).alloc (Nat.le_refl _) _
    have hV := PosAt.new v1 0 0
    rw [← hy1] at hV ⊢
    have lt_P := P.out.lt
    have gg_D := D.out.size
    have D := Lib.hid (below_on D.out hA)
    have P := Lib.hid (P.out.below hA P.out.lt)
    obtain ⟨b_V, hbf⟩ : ∃ b, b = v1.heap.size := ⟨_, rfl⟩
    rw [← hbf] at hV ⊢
    have n_P_V := Lib.hid (show b_P ≠ b_V by omega)
    clear lt_P
    have g_V_D := Lib.hid (show w1.heap.size ≤ b_V by rw [hbf]; exact gg_D)
    clear gg_D
    have V := Lib.hid hV
    clear hV hA hy1 hbf
    have c_P := P.out
    have P0 := c_P.c0
    have P1 := c_P.c1
    clear c_P
    have c_V := V.out
    have V0 := c_V.c0
    have V1 := c_V.c1
    clear c_V
    go_wp2
    clear P0 P1 V0 V1
    go_loopw [12] (fun u wr => ∃ q : Nat, m ≤ q ∧ q ≤ st.size ∧ u = .int .i64 q ∧ y1 = wr) (fun u _ => st.size - (RowKit.intOf u).toNat)
    case atStart => exact ⟨m, Nat.le_refl _, hm, rfl, rfl⟩
    case round =>
      obtain ⟨q, hmq, hqz, rfl, rfl⟩ := hrel
      by_cases hqs : q < st.size
      · have hle := of5_at st q hqs y1
        have hb := kl_ne (hall.out q hmq hqs)
        generalize kl st false q = A at *
        go_wp2_with fail
        refine hle.mono ?_
        rintro e w' ⟨rfl, rfl⟩
        clear hle
        go_wp2
        go_roundw
        case rel => exact ⟨q + 1, by omega, by omega, by go_num, by first | rfl | trivial⟩
        case measure => simp [RowKit.intOf]; omega
      · obtain rfl : q = st.size := by omega
        have v0 := V.out.c0
        have v1 := V.out.c1
        go_wp2
        go_ret
        exact ⟨rfl, below_on HB1.out D.out⟩
  obtain ⟨f1, f2, f3, f4, f5, f6, f7, f8⟩ := word_facts hm hF
  have hwr : wdR ls i m = ⟨i, wB st m, st.extract (wB st m) (wE st m), true⟩ := by
    unfold wdR
    rw [Int.toNat_natCast, Int.toNat_natCast, ← HST.out.1]
    exact if_pos ⟨HST.out.2, hF⟩
  rw [hwr] at hwd
  obtain ⟨B, hB⟩ : ∃ B, B = wB st m := ⟨_, rfl⟩
  obtain ⟨E, hE⟩ : ∃ E, E = wE st m := ⟨_, rfl⟩
  obtain ⟨F, hFF⟩ : ∃ F, F = wF st m := ⟨_, rfl⟩
  rw [← hB, ← hE] at hwd f5
  rw [← hB, ← hFF] at f1
  rw [← hFF, ← hE] at f2
  rw [← hE] at f3 f6
  rw [← hFF] at f4 f8
  rw [← hB] at f7
  obtain ⟨wv, hwv⟩ : ∃ s, s = st.extract B E := ⟨_, rfl⟩
  rw [← hwv] at hwd
  have hwz : wv.size = E - B := by
    rw [← size_str, hwv, ext_list, List.length_drop, List.length_take, size_str]; omega
  have hkl := Lib.hid (show ∀ j, j < wv.size → kl wv false j = 1 from fun j hj => by
    rw [hwv, kl_ext (by omega) (by omega)]; exact kl_one (f5 _ (by omega) (by omega)))
  have he : wv.toList.isEmpty = false := empty_of_pos (by omega)
  have hs1 : ((st.extract B E).toList != wv.toList) = false := by rw [hwv]; simp
  have hs2 : ((st.extract B E).toList == wv.toList) = true := by rw [hwv]; simp
  have hwE : IntKind.i64.wrap ((B : Int) + (wv.size : Int)) = (E : Int) := by rw [IntKind.wrap_i64]; omega
  have g1 : decide ((B : Int) < 0) = false := decide_eq_false (by omega)
  have g2 : decide ((st.size : Int) < (E : Int)) = false := decide_eq_false (by omega)
  have g3 : decide (st.size < E) = false := decide_eq_false (by omega)
  have g4 : decide ((E : Int) ≤ (m : Int)) = false := decide_eq_false (by omega)
  have g5 : decide (E ≤ m) = false := decide_eq_false (by omega)
  have g6 : (B : Int) ≤ (E : Int) := by omega
  have g7 : (E : Int) ≤ (st.size : Int) := by omega
  have g8 : B ≤ E := by omega
  have g9 : E ≤ st.size := f3
  have hwz2 : wv.size ≤ 1240 := by omega
  have HF := Lib.hid (And.intro f1 (And.intro f2 (And.intro f4 (And.intro f6 (And.intro f7 f8)))))
  dsimp only [W3.v] at hwd
  clear hwr hB hE hFF hwv hwz f1 f2 f3 f4 f5 f6 f7 f8 hF
  go_wp2_with fail
  refine (hwd _ D.out).mono ?_
  rintro e v1 ⟨rfl, hb⟩
  clear P0 P1
  have D := Lib.hid (below_on D.out hb)
  have P := Lib.hid (P.out.below hb P.out.lt)
  clear hb hwd
  go_upto_region 8 with fail
  obtain ⟨y1, hy1⟩ : ∃ y1, y1 = v1.alloc (.cells #[.int .i64 (i : Int), .int .i64 (B : Int)] 27) := ⟨_, rfl⟩
  have hA : Below v1.heap.size v1 y1 := by rw [hy1]; exact (Below.refl _ v1).alloc (Nat.le_refl _) _
  have hV := PosAt.new v1 (i : Int) (B : Int)
  rw [← hy1] at hV ⊢
  have lt_P := P.out.lt
  have gg_D := D.out.size
  have D := Lib.hid (below_on D.out hA)
  have P := Lib.hid (P.out.below hA P.out.lt)
  obtain ⟨b_V, hbf⟩ : ∃ b, b = v1.heap.size := ⟨_, rfl⟩
  rw [← hbf] at hV ⊢
  have n_P_V := Lib.hid (show b_P ≠ b_V by omega)
  clear lt_P
  have g_V_D := Lib.hid (show w1.heap.size ≤ b_V by rw [hbf]; exact gg_D)
  clear gg_D
  have V := Lib.hid hV
  clear hV hA hy1 hbf
  have c_P := P.out
  have P0 := c_P.c0
  have P1 := c_P.c1
  clear c_P
  have c_V := V.out
  have V0 := c_V.c0
  have V1 := c_V.c1
  clear c_V
  go_wp2
  clear g1 g2 g3 g4 g5 hs1 hs2 he
  clear P0 P1 V0 V1
  go_loopw [13] (fun u wr => ∃ o : Nat, o ≤ wv.size ∧ u = .int .i64 o ∧ y1 = wr) (fun u _ => wv.size - (RowKit.intOf u).toNat)
  case atStart => exact ⟨0, Nat.zero_le _, rfl, rfl⟩
  case round =>
    obtain ⟨o, hoz, rfl, rfl⟩ := hrel
    by_cases hos : o < wv.size
    · have hle := of5_at wv o hos y1
      rw [hkl.out o hos] at hle
      go_wp2_with fail
      refine hle.mono ?_
      rintro e w' ⟨rfl, rfl⟩
      clear hle
      go_wp2
      go_roundw
      case rel => exact ⟨o + 1, by omega, by go_num, by first | rfl | trivial⟩
      case measure => simp [RowKit.intOf]; omega
    · obtain rfl : o = wv.size := by omega
      have v0 := V.out.c0
      have v1 := V.out.c1
      have p0 := P.out.c0
      have p1 := P.out.c1
      by_cases hEs : E < st.size
      · have e0 : decide (E < st.size) = true := decide_eq_true hEs
        have e1 : decide ((E : Int) < (st.size : Int)) = true := decide_eq_true (by omega)
        have hle := of5_at st E hEs y1
        have hb0 := kl_ne (HF.out.2.2.2.1 hEs)
        generalize kl st false E = A0 at *
        go_wp2_with fail
        refine hle.mono ?_
        rintro e w' ⟨rfl, rfl⟩
        clear hle
        by_cases hB0 : 0 < B
        · have d0 : decide (0 < B) = true := decide_eq_true hB0
          have d1 : decide ((0 : Int) < (B : Int)) = true := decide_eq_true (by omega)
          obtain ⟨B1, hB1⟩ : ∃ B1, B1 = B - 1 := ⟨_, rfl⟩
          have hwB : IntKind.i64.wrap ((B : Int) - 1) = (B1 : Int) := by rw [IntKind.wrap_i64]; omega
          have hBs : B1 < st.size := by omega
          have hle := of5_at st B1 hBs y1
          have hb := kl_ne (show ltr st B1 = false by rw [hB1]; exact HF.out.2.2.2.2.1 hB0)
          generalize kl st false B1 = A at *
          clear hB1 hB0
          go_wp2_with fail
          refine hle.mono ?_
          rintro e w' ⟨rfl, rfl⟩
          clear hle
          go_wp2
          clear hb d0 d1
          go_loopw [15] (fun u wr => ∃ o : Nat, m ≤ o ∧ u = .int .i64 o ∧ y1 = wr) (fun u _ => B - (RowKit.intOf u).toNat)
          case atStart => exact ⟨m, Nat.le_refl _, rfl, rfl⟩
          case round =>
            obtain ⟨o, hmo, rfl, rfl⟩ := hrel
            clear p0 p1
            have v0 := V.out.c0
            have v1 := V.out.c1
            by_cases hoB : o < B
            · have hos : o < st.size := by omega
              have hle := of5_at st o hos y1
              have hb := kl_ne (HF.out.2.2.2.2.2 o hmo (by have := HF.out.1; omega))
              generalize kl st false o = A at *
              go_wp2_with fail
              refine hle.mono ?_
              rintro e w' ⟨rfl, rfl⟩
              clear hle
              go_wp2
              go_roundw
              case rel => exact ⟨o + 1, by omega, by go_num, by first | rfl | trivial⟩
              case measure => simp [RowKit.intOf]; omega
            · have d0 : decide (o < B) = false := decide_eq_false hoB
              have d1 : decide ((o : Int) < (B : Int)) = false := decide_eq_false (by omega)
              go_wp2
              go_ret
              exact ⟨rfl, below_on HB1.out D.out⟩
        · have d0 : decide (0 < B) = false := decide_eq_false hB0
          have d1 : decide ((0 : Int) < (B : Int)) = false := decide_eq_false (by omega)
          clear hB0
          go_wp2
          clear d0 d1
          go_loopw [15] (fun u wr => ∃ o : Nat, m ≤ o ∧ u = .int .i64 o ∧ y1 = wr) (fun u _ => B - (RowKit.intOf u).toNat)
          case atStart => exact ⟨m, Nat.le_refl _, rfl, rfl⟩
          case round =>
            obtain ⟨o, hmo, rfl, rfl⟩ := hrel
            clear p0 p1
            have v0 := V.out.c0
            have v1 := V.out.c1
            by_cases hoB : o < B
            · have hos : o < st.size := by omega
              have hle := of5_at st o hos y1
              have hb := kl_ne (HF.out.2.2.2.2.2 o hmo (by have := HF.out.1; omega))
              generalize kl st false o = A at *
              go_wp2_with fail
              refine hle.mono ?_
              rintro e w' ⟨rfl, rfl⟩
              clear hle
              go_wp2
              go_roundw
              case rel => exact ⟨o + 1, by omega, by go_num, by first | rfl | trivial⟩
              case measure => simp [RowKit.intOf]; omega
            · have d0 : decide (o < B) = false := decide_eq_false hoB
              have d1 : decide ((o : Int) < (B : Int)) = false := decide_eq_false (by omega)
              go_wp2
              go_ret
              exact ⟨rfl, below_on HB1.out D.out⟩
      · have e0 : decide (E < st.size) = false := decide_eq_false hEs
        have e1 : decide ((E : Int) < (st.size : Int)) = false := decide_eq_false (by omega)
        by_cases hB0 : 0 < B
        · have d0 : decide (0 < B) = true := decide_eq_true hB0
          have d1 : decide ((0 : Int) < (B : Int)) = true := decide_eq_true (by omega)
          obtain ⟨B1, hB1⟩ : ∃ B1, B1 = B - 1 := ⟨_, rfl⟩
          have hwB : IntKind.i64.wrap ((B : Int) - 1) = (B1 : Int) := by rw [IntKind.wrap_i64]; omega
          have hBs : B1 < st.size := by omega
          have hle := of5_at st B1 hBs y1
          have hb := kl_ne (show ltr st B1 = false by rw [hB1]; exact HF.out.2.2.2.2.1 hB0)
          generalize kl st false B1 = A at *
          clear hB1 hB0
          go_wp2_with fail
          refine hle.mono ?_
          rintro e w' ⟨rfl, rfl⟩
          clear hle
          go_wp2
          clear hb d0 d1
          go_loopw [15] (fun u wr => ∃ o : Nat, m ≤ o ∧ u = .int .i64 o ∧ y1 = wr) (fun u _ => B - (RowKit.intOf u).toNat)
          case atStart => exact ⟨m, Nat.le_refl _, rfl, rfl⟩
          case round =>
            obtain ⟨o, hmo, rfl, rfl⟩ := hrel
            clear p0 p1
            have v0 := V.out.c0
            have v1 := V.out.c1
            by_cases hoB : o < B
            · have hos : o < st.size := by omega
              have hle := of5_at st o hos y1
              have hb := kl_ne (HF.out.2.2.2.2.2 o hmo (by have := HF.out.1; omega))
              generalize kl st false o = A at *
              go_wp2_with fail
              refine hle.mono ?_
              rintro e w' ⟨rfl, rfl⟩
              clear hle
              go_wp2
              go_roundw
              case rel => exact ⟨o + 1, by omega, by go_num, by first | rfl | trivial⟩
              case measure => simp [RowKit.intOf]; omega
            · have d0 : decide (o < B) = false := decide_eq_false hoB
              have d1 : decide ((o : Int) < (B : Int)) = false := decide_eq_false (by omega)
              go_wp2
              go_ret
              exact ⟨rfl, below_on HB1.out D.out⟩
        · have d0 : decide (0 < B) = false := decide_eq_false hB0
          have d1 : decide ((0 : Int) < (B : Int)) = false := decide_eq_false (by omega)
          clear hB0
          go_wp2
          clear d0 d1
          go_loopw [15] (fun u wr => ∃ o : Nat, m ≤ o ∧ u = .int .i64 o ∧ y1 = wr) (fun u _ => B - (RowKit.intOf u).toNat)
          case atStart => exact ⟨m, Nat.le_refl _, rfl, rfl⟩
          case round =>
            obtain ⟨o, hmo, rfl, rfl⟩ := hrel
            clear p0 p1
            have v0 := V.out.c0
            have v1 := V.out.c1
            by_cases hoB : o < B
            · have hos : o < st.size := by omega
              have hle := of5_at st o hos y1
              have hb := kl_ne (HF.out.2.2.2.2.2 o hmo (by have := HF.out.1; omega))
              generalize kl st false o = A at *
              go_wp2_with fail
              refine hle.mono ?_
              rintro e w' ⟨rfl, rfl⟩
              clear hle
              go_wp2
              go_roundw
              case rel => exact ⟨o + 1, by omega, by go_num, by first | rfl | trivial⟩
              case measure => simp [RowKit.intOf]; omega
            · have d0 : decide (o < B) = false := decide_eq_false hoB
              have d1 : decide ((o : Int) < (B : Int)) = false := decide_eq_false (by omega)
              go_wp2
              go_ret
              exact ⟨rfl, below_on HB1.out D.out⟩
end Go.Proofs.Ythlneojhkhhmbaa.FWds
