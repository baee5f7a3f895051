/-
  The document's Quote.
-/
import Derived.Test.YtfcedllgidhnfaaYf
import Derived.Test.YtfcedllgidhnfaaOi
import Derived.Test.YtfcedllgidhnfaaOd
set_option linter.unusedVariables false
set_option linter.unusedSimpArgs false
set_option maxRecDepth 100000
namespace Go.Proofs.Ytfcedllgidhnfaa.Wo
open Go Go.RowKit Go.Proofs.Ytfcedllgidhnfaa.Vk Go.Proofs.Ytfcedllgidhnfaa.Str Go.Proofs.Ytfcedllgidhnfaa.Ln Go.Proofs.Ytfcedllgidhnfaa.Cl Go.Proofs.Ytfcedllgidhnfaa.Mv
attribute [local go_sem] Oper.semAt_some

theorem fnd_at {xs : List RN} {j k : Nat} (hj : j < xs.length) (h : ∀ y ∈ xs.take j, y.2 < k) (hx : k ≤ xs[j].2) : fnd xs k = some xs[j] := by
  have e : xs = xs.take j ++ xs[j] :: xs.drop (j + 1) := by
    rw [List.getElem_cons_drop, List.take_append_drop]
  conv => lhs; rw [e]
  exact fnd_here h hx
theorem take_next {xs : List RN} {j k : Nat} (hj : j < xs.length) (h : ∀ y ∈ xs.take j, y.2 < k) (hx : xs[j].2 < k) : ∀ y ∈ xs.take (j + 1), y.2 < k := by
  intro y hy
  rw [List.take_succ_eq_append_getElem hj] at hy
  rcases List.mem_append.1 hy with hy | hy
  · exact h y hy
  · obtain rfl : y = xs[j] := by simpa using hy
    exact hx
/-- What Quote answers. -/
def quQ (ls : List ByteArray) (q l c : Int) : Bool → Option RN
  | true => arQ ls q l c
  | false => inQ ls q l c
theorem quQ_none {ls : List ByteArray} {q l c : Int} {ar : Bool} (h : pof ls q l c = none) : quQ ls q l c ar = none := by
  cases ar
  · exact inQ_none h
  · exact arQ_none h

set_option maxHeartbeats 8000000 in
theorem quote_any (a : Option Addr) (n c' : Nat) (ls : List ByteArray) (l c q : Int) (ar : Bool) (w : World) (h : Ss w a n c' ls) (hs : ∀ s ∈ ls, s.size ≤ 1000000) :
    Calls Try.prog 14 #[.slice a n c', .agg #[.int .i64 l, .int .i64 c], .int .u8 q, .bool ar] w fun e w' => e = .returned (anV l.toNat (quQ ls q l c ar)) ∧ Below w.heap.size w w' := by
  have hlen := h.length
  have hn := h.le63
  obtain ⟨X, hX⟩ : ∃ X, X = (w.alloc (.cells #[.int .i64 l, .int .i64 c] 34)).alloc (.cells #[.int .i64 0, .int .i64 0, .int .i64 0, .int .i64 0, .int .i64 0] 41) := ⟨_, rfl⟩
  have hT : Vb w X l c := by rw [hX]; exact Vb.new w l c
  have hon := on_any a n c' ls l c 1 X (SrcV.below h hT.below)
  have p0 := hT.pos.c0
  have p1 := hT.pos.c1
  have HX := Lib.hid hX
  have HT := Lib.hid hT
  clear hX hT
  by_cases hp : On ls l c
  rotate_left
  · rw [quQ_none (pof_no hp)]
    rw [decide_eq_false (fun e => hp e.1)] at hon
    simp only [anV]
    clear hp h
    go_enter Try.func14, Try.ntmps14
    go_wp2_with fail
    rw [← HX.out]
    refine hon.mono ?_
    rintro e w1 ⟨rfl, hb1⟩
    have T1 := HT.out.on hb1
    clear hb1 hon p0 p1
    have r0 := T1.rg.c0
    have r1 := T1.rg.c1
    have r2 := T1.rg.c2
    have r3 := T1.rg.c3
    have r4 := T1.rg.c4
    have z := T1.rg.z
    go_wp2
    obtain ⟨hg, hb⟩ := T1.ret 0 0 0 0 0
    exact ret_rb (g := w.heap.size + 1) rfl rfl rfl rfl hg ⟨rfl, hb⟩
  rw [decide_eq_true (show On ls l c ∧ (1 : Int) ≤ 1 from ⟨hp, Int.le_refl _⟩)] at hon
  obtain ⟨i, k, rfl, rfl, hi, hik⟩ := hp.nat
  rw [Int.toNat_natCast] at *
  obtain ⟨r, hr⟩ : ∃ r, r = quQ ls q i k ar := ⟨_, rfl⟩
  rw [← hr]
  have HR := Lib.hid hr
  have HF := Lib.hid (pof_yes (q := q) hp)
  obtain ⟨ba, o, rfl, hcl, hnc, _⟩ := h.read i (by omega)
  have hlt' := lineAt_get hi
  have hstz := hs (ls[i]'hi) (List.getElem_mem hi)
  rw [← hlt'] at hcl hstz
  obtain ⟨st, hst⟩ : ∃ st, st = lineAt ls i := ⟨_, rfl⟩
  rw [← hst] at hcl hstz HF
  have HST := Lib.hid hst
  have hin2 : i < n := by omega
  have hcl := cell_later HT.out.below hcl
  obtain ⟨xs, hxs⟩ : ∃ xs, xs = qs st q := ⟨_, rfl⟩
  have hall : ∀ x ∈ xs, Pr st q st.size x := fun x hx => qs_mem (by rw [← hxs]; exact hx)
  have hxl : xs.length ≤ st.size := by rw [hxs]; exact qs_len
  have hpr := fun W => pairs15_any st q W hstz
  rw [← hxs] at hpr HF
  have HALL := Lib.hid hall
  clear hp h hs hst hlt' hr hxs hall hik hi
  go_enter Try.func14, Try.ntmps14
  go_wp2_with fail
  rw [← HX.out]
  refine hon.mono ?_
  rintro e w1 ⟨rfl, hb1⟩
  have T1 := HT.out.on hb1
  have hcl := cell_later hb1 hcl
  clear hb1 hon p0 p1 HT HX
  have p0 := T1.pos.c0
  have p1 := T1.pos.c1
  go_wp2_with fail
  refine (hpr _).mono ?_
  rintro e x2 ⟨bb, N, cc, rfl, hO⟩
  have HT2 := Lib.hid (T1.on hO.bel)
  have HRs := Lib.hid hO.rs
  have hNl := hO.len
  have hN63 : N ≤ 1000000 := by omega
  have HN := Lib.hid hNl
  clear hpr hO T1 p0 p1 hcl hNl hxl
  go_wp2
  go_loopw [12] (fun u wr => ∃ j : Nat, j ≤ N ∧ u = .int .i64 j ∧ Hid (Below x2.heap.size x2 wr ∧ ∀ y ∈ xs.take j, y.2 < k)) (fun u _ => N - (RowKit.intOf u).toNat)
  case atStart => exact ⟨0, Nat.zero_le _, rfl, Below.refl _ _, fun y hy => by simp at hy⟩
  case round =>
    obtain ⟨j, hjN, rfl, hR⟩ := hrel
    have T3 := HT2.out.on hR.out.1
    by_cases hj : j < N
    rotate_left
    · have hrn : r = none := by
        rw [HR.out]
        refine quQ_none ?_
        rw [HF.out]
        refine fnd_none fun y hy => hR.out.2 y ?_
        rw [List.take_of_length_le (by have := HN.out; omega)]
        exact hy
      have HRN := Lib.hid hrn
      have b0 : decide (j < N) = false := decide_eq_false hj
      have b1 : decide ((j : Int) < (N : Int)) = false := decide_eq_false (by omega)
      have r0 := T3.rg.c0
      have r1 := T3.rg.c1
      have r2 := T3.rg.c2
      have r3 := T3.rg.c3
      have r4 := T3.rg.c4
      have z := T3.rg.z
      clear hrn hj
      go_wp2
      obtain ⟨hg, hb⟩ := T3.ret 0 0 0 0 0
      exact ret_rb (g := w.heap.size + 1) rfl rfl rfl rfl hg ⟨by rw [HRN.out]; rfl, hb⟩
    have b0 : decide (j < N) = true := decide_eq_true hj
    have b1 : (j : Int) < (N : Int) := by omega
    have hjl : j < xs.length := by have := HN.out; omega
    obtain ⟨g, o2, rfl, x0, x1, hnc2⟩ := (HRs.out.below hR.out.1).read j hjl
    obtain ⟨A, hA⟩ : ∃ A, A = (xs[j]'hjl).1 := ⟨_, rfl⟩
    obtain ⟨B, hB⟩ : ∃ B, B = (xs[j]'hjl).2 := ⟨_, rfl⟩
    have hP := HALL.out _ (List.getElem_mem hjl)
    have hAB := hP.lt
    have hBs := hP.le
    rw [← hA, ← hB] at hAB
    rw [← hB] at hBs
    rw [← hA] at x0
    rw [← hB] at x1
    have hx : xs[j]'hjl = (A, B) := by rw [hA, hB]
    have HXJ := Lib.hid (And.intro hjl hx)
    clear hA hB hP hx
    have p0 := T3.pos.c0
    have p1 := T3.pos.c1
    have f0 := fun z : Gr wr => z.cell p0
    have f1 := fun z : Gr wr => z.cell p1
    have f2 := fun z : Gr wr => z.cell x0
    have f3 := fun z : Gr wr => z.cell x1
    have HT3 := Lib.hid T3
    have HX0 := Lib.hid (And.intro x0 x1)
    clear p0 p1 x0 x1 T3
    by_cases hBk : B < k
    · have HBK := Lib.hid hBk
      have e0 : decide (B < k) = true := decide_eq_true hBk
      have e1 : decide ((B : Int) < (k : Int)) = true := decide_eq_true (by omega)
      obtain ⟨M, hM⟩ : ∃ M, M = j + 1 := ⟨_, rfl⟩
      have hwM : IntKind.i64.wrap ((j : Int) + 1) = (M : Int) := by rw [IntKind.wrap_i64]; omega
      have HM := Lib.hid hM
      have HJ := Lib.hid hj
      clear hM hBk
      go_upto_region 8 with fail
      refine wp_region_grow (by kernel_rfl) (by kernel_rfl) ?_
      repeat (go_big_quiet_step (fail))
      refine wpQuiet_nil ?_
      rintro V ⟨⟨_, hbV⟩, rfl⟩
      clear f0 f1 f2 f3
      go_wp2
      go_roundw
      case rel =>
        refine ⟨M, by have := HM.out; have := HJ.out; omega, rfl, below_on hR.out.1 hbV, ?_⟩
        rw [HM.out]
        obtain ⟨h1, h2⟩ := HXJ.out
        exact take_next h1 hR.out.2 (by rw [h2]; exact HBK.out)
      case measure => have := HM.out; have := HJ.out; simp [RowKit.intOf]; omega
    have HQ : Hid (pof ls q i k = some (A, B)) := by
      obtain ⟨h1, h2⟩ := HXJ.out
      have := fnd_at h1 hR.out.2 (by rw [h2]; exact Nat.le_of_not_lt hBk)
      rw [h2] at this
      exact HF.out.trans this
    have e0 : decide (B < k) = false := decide_eq_false hBk
    have e1 : decide ((B : Int) < (k : Int)) = false := decide_eq_false (by omega)
    obtain ⟨A1, hA1⟩ : ∃ A1, A1 = A + 1 := ⟨_, rfl⟩
    obtain ⟨B1, hB1⟩ : ∃ B1, B1 = B + 1 := ⟨_, rfl⟩
    have hwA : IntKind.i64.wrap ((A : Int) + 1) = (A1 : Int) := by rw [IntKind.wrap_i64]; omega
    have hwB : IntKind.i64.wrap ((B : Int) + 1) = (B1 : Int) := by rw [IntKind.wrap_i64]; omega
    have HA1 := Lib.hid hA1
    have HB1 := Lib.hid hB1
    have hB1s : B1 ≤ st.size := by omega
    have hAs : A < st.size := by omega
    have HTwr := HT3
    have HXwr := HX0
    clear hBk hR hA1 hB1 HT3 HX0 hAB hBs
    go_upto_region 8 with fail
    refine wp_region_grow (by kernel_rfl) (by kernel_rfl) ?_
    repeat (go_big_quiet_step (fail))
    refine wpQuiet_nil ?_
    rintro V1 ⟨⟨_, hbV1⟩, rfl⟩
    have HTV1 := Lib.hid (HTwr.out.on hbV1)
    have HXV1 := Lib.hid (And.intro (cell_later hbV1 HXwr.out.1) (cell_later hbV1 HXwr.out.2))
    clear f0 f1 f2 f3 hbV1
    have p0 := HTV1.out.pos.c0
    have p1 := HTV1.out.pos.c1
    have x0 := HXV1.out.1
    have x1 := HXV1.out.2
    have f0 := fun z : Gr V1 => z.cell p0
    have f1 := fun z : Gr V1 => z.cell p1
    have f2 := fun z : Gr V1 => z.cell x0
    have f3 := fun z : Gr V1 => z.cell x1
    clear p0 p1 x0 x1
    go_upto_region 9 with fail
    refine wp_region_grow (by kernel_rfl) (by kernel_rfl) ?_
    repeat (go_big_quiet_step (fail))
    refine wpQuiet_nil ?_
    rintro V2 ⟨⟨_, hbV2⟩, rfl⟩
    have HTV2 := Lib.hid (HTV1.out.on hbV2)
    have HXV2 := Lib.hid (And.intro (cell_later hbV2 HXV1.out.1) (cell_later hbV2 HXV1.out.2))
    clear f0 f1 f2 f3 hbV2
    have p0 := HTV2.out.pos.c0
    have p1 := HTV2.out.pos.c1
    have x0 := HXV2.out.1
    have x1 := HXV2.out.2
    cases ar
    · have hrq : r = some (A1, B) := by
        rw [HR.out]
        show inQ ls q i k = _
        rw [inQ_some HQ.out, HA1.out]
      have HRQ := Lib.hid hrq
      clear hrq
      have hco := fun W => in_any i A1 B W
      go_wp2_with fail
      refine (hco _).mono ?_
      rintro e V9 ⟨rfl, hb9⟩
      have T9 := HTV2.out.on hb9
      clear hb9 hco p0 p1 x0 x1
      have r0 := T9.rg.c0
      have r1 := T9.rg.c1
      have r2 := T9.rg.c2
      have r3 := T9.rg.c3
      have r4 := T9.rg.c4
      have z := T9.rg.z
      go_wp2
      obtain ⟨hg, hb⟩ := T9.ret 0 i A1 i B
      exact ret_rb (g := w.heap.size + 1) rfl rfl rfl rfl hg ⟨by rw [HRQ.out]; rfl, hb⟩
    · have hrt : r = some (brd st (A, B)) := by
        rw [HR.out]
        show arQ ls q i k = _
        rw [arQ_some HQ.out, Int.toNat_natCast, ← HST.out]
      have HRT := Lib.hid hrt
      clear hrt
      have f0 := fun z : Gr V2 => z.cell p0
      have f1 := fun z : Gr V2 => z.cell p1
      have f2 := fun z : Gr V2 => z.cell x0
      have f3 := fun z : Gr V2 => z.cell x1
      clear p0 p1 x0 x1
      go_upto_region 11 with fail
      refine wp_region_grow (by kernel_rfl) (by kernel_rfl) ?_
      repeat (go_big_quiet_step (fail))
      refine wpQuiet_nil ?_
      rintro V3 ⟨⟨_, hbV3⟩, rfl⟩
      have HTV3 := Lib.hid (HTV2.out.on hbV3)
      have HXV3 := Lib.hid (And.intro (cell_later hbV3 HXV2.out.1) (cell_later hbV3 HXV2.out.2))
      clear f0 f1 f2 f3 hbV3
      have p0 := HTV3.out.pos.c0
      have p1 := HTV3.out.pos.c1
      have x0 := HXV3.out.1
      have x1 := HXV3.out.2
      go_wp2
      go_loop [14] (fun u => ∃ b : Nat, b ≤ st.size ∧ u = .int .i64 b ∧ Hid (fb st b = fb st B1)) (fun u => st.size - (RowKit.intOf u).toNat)
      case atStart => exact ⟨B1, hB1s, rfl, rfl⟩
      case round =>
        obtain ⟨b, hbs, rfl, hBB⟩ := hrel
        by_cases hbn : b < st.size
        · have ho := of5_kl st true b hbn V3
          have g0 : decide (b < st.size) = true := decide_eq_true hbn
          have g1 : (b : Int) < (st.size : Int) := by omega
          have HH := Lib.hid hbn
          by_cases hb : kl st true b = 0
          · obtain ⟨M, hM⟩ : ∃ M, M = b + 1 := ⟨_, rfl⟩
            have hwM : IntKind.i64.wrap ((b : Int) + 1) = (M : Int) := by rw [IntKind.wrap_i64]; omega
            have HM := Lib.hid hM
            clear hM
            have e3 : (kl st true b == 0) = true := by rw [beq_iff_eq]; exact hb
            have HY := Lib.hid (fb_yes hbn hb)
            generalize kl st true b = z at *
            clear hb
            go_wp2_with fail
            refine ho.mono ?_
            rintro e w' ⟨rfl, rfl⟩
            clear ho
            go_wp2
            go_round
            case rel => exact ⟨M, by have := HM.out; have := HH.out; omega, rfl, by rw [HM.out, HY.out]; exact hBB.out⟩
            case measure => have := HM.out; have := HH.out; simp [RowKit.intOf]; omega
          · have e3 : (kl st true b == 0) = false := by rw [beq_eq_false_iff_ne]; exact hb
            have HFB : Hid (fb st B1 = b) := by rw [← hBB.out]; exact fb_no hbn hb
            generalize kl st true b = z at *
            clear hb
            go_wp2_with fail
            refine ho.mono ?_
            rintro e w' ⟨rfl, rfl⟩
            clear ho hbn
            by_cases hFB : b = B1
            · have e2 : ((b : Int) == (B1 : Int)) = true := by rw [beq_iff_eq]; omega
              have HE := Lib.hid hFB
              have hrb : r = some (bb0 st A, b) := by
                rw [HRT.out]
                unfold brd
                simp only [← HB1.out]
                rw [if_pos (by rw [HFB.out]; exact HE.out), HE.out]
              have HRB := Lib.hid hrb
              clear hrb hFB
              go_wp2
              go_loop [13] (fun u => ∃ v : Nat, v ≤ A ∧ u = .int .i64 v ∧ Hid (bb0 st v = bb0 st A)) (fun u => (RowKit.intOf u).toNat)
              case atStart => exact ⟨A, Nat.le_refl _, rfl, rfl⟩
              case round =>
                obtain ⟨v, hv, rfl, hBV⟩ := hrel
                by_cases hv0 : 0 < v
                · obtain ⟨u, hu⟩ : ∃ u, v = u + 1 := ⟨v - 1, by omega⟩
                  have hus : u < st.size := by omega
                  have ho := of5_kl st true u hus V3
                  have g0 : decide (0 < v) = true := decide_eq_true hv0
                  have g00 : decide ((0 : Int) < (v : Int)) = true := decide_eq_true (by omega)
                  have g1 : (u : Int) < (st.size : Int) := by omega
                  have hwM : IntKind.i64.wrap ((v : Int) - 1) = (u : Int) := by rw [IntKind.wrap_i64]; omega
                  have HM := Lib.hid hu
                  clear hu hv0
                  by_cases hb : kl st true u = 0
                  · have e3 : (kl st true u == 0) = true := by rw [beq_iff_eq]; exact hb
                    have HY := Lib.hid (bb0_yes hb)
                    generalize kl st true u = z at *
                    clear hb
                    go_wp2_with fail
                    refine ho.mono ?_
                    rintro e w' ⟨rfl, rfl⟩
                    clear ho
                    go_wp2
                    go_round
                    case rel => exact ⟨u, by have := HM.out; omega, rfl, by rw [HY.out, ← HM.out]; exact hBV.out⟩
                    case measure => have := HM.out; simp [RowKit.intOf]; omega
                  · have e3 : (kl st true u == 0) = false := by rw [beq_eq_false_iff_ne]; exact hb
                    have HY := Lib.hid (bb0_no hb)
                    generalize kl st true u = z at *
                    have hrq : r = some (v, b) := by rw [HRB.out, ← hBV.out, HM.out, HY.out]
                    have HRQ := Lib.hid hrq
                    clear hb hrq
                    go_wp2_with fail
                    refine ho.mono ?_
                    rintro e w' ⟨rfl, rfl⟩
                    clear ho
                    have hco := fun W => in_any i v b W
                    go_wp2_with fail
                    refine (hco _).mono ?_
                    rintro e V9 ⟨rfl, hb9⟩
                    have T9 := HTV3.out.on hb9
                    clear hb9 hco p0 p1 x0 x1
                    have r0 := T9.rg.c0
                    have r1 := T9.rg.c1
                    have r2 := T9.rg.c2
                    have r3 := T9.rg.c3
                    have r4 := T9.rg.c4
                    have z := T9.rg.z
                    go_wp2
                    obtain ⟨hg, hb⟩ := T9.ret 0 i v i b
                    exact ret_rb (g := w.heap.size + 1) rfl rfl rfl rfl hg ⟨by rw [HRQ.out]; rfl, hb⟩
                · have hvz : v = 0 := by omega
                  have g0 : decide (0 < v) = false := decide_eq_false hv0
                  have g00 : decide ((0 : Int) < (v : Int)) = false := decide_eq_false (by omega)
                  have hrq : r = some (v, b) := by rw [HRB.out, ← hBV.out, hvz]; rfl
                  have HRQ := Lib.hid hrq
                  clear hrq hvz hv0
                  have hco := fun W => in_any i v b W
                  go_wp2_with fail
                  refine (hco _).mono ?_
                  rintro e V9 ⟨rfl, hb9⟩
                  have T9 := HTV3.out.on hb9
                  clear hb9 hco p0 p1 x0 x1
                  have r0 := T9.rg.c0
                  have r1 := T9.rg.c1
                  have r2 := T9.rg.c2
                  have r3 := T9.rg.c3
                  have r4 := T9.rg.c4
                  have z := T9.rg.z
                  go_wp2
                  obtain ⟨hg, hb⟩ := T9.ret 0 i v i b
                  exact ret_rb (g := w.heap.size + 1) rfl rfl rfl rfl hg ⟨by rw [HRQ.out]; rfl, hb⟩
            · have e2 : ((b : Int) == (B1 : Int)) = false := by rw [beq_eq_false_iff_ne]; omega
              have hrq : r = some (A, b) := by
                rw [HRT.out]
                unfold brd
                simp only [← HB1.out]
                rw [if_neg (by rw [HFB.out]; exact hFB), HFB.out]
              have HRQ := Lib.hid hrq
              clear hrq hFB
              go_wp2
              go_loop [13] (fun u => u = .int .i64 (A : Int)) (fun u => 0)
              case atStart => rfl
              case round =>
                subst hrel
                have hco := fun W => in_any i A b W
                go_wp2_with fail
                refine (hco _).mono ?_
                rintro e V9 ⟨rfl, hb9⟩
                have T9 := HTV3.out.on hb9
                clear hb9 hco p0 p1 x0 x1
                have r0 := T9.rg.c0
                have r1 := T9.rg.c1
                have r2 := T9.rg.c2
                have r3 := T9.rg.c3
                have r4 := T9.rg.c4
                have z := T9.rg.z
                go_wp2
                obtain ⟨hg, hb⟩ := T9.ret 0 i A i b
                exact ret_rb (g := w.heap.size + 1) rfl rfl rfl rfl hg ⟨by rw [HRQ.out]; rfl, hb⟩
        · have g0 : decide (b < st.size) = false := decide_eq_false hbn
          have g1 : decide ((b : Int) < (st.size : Int)) = false := decide_eq_false (by omega)
          have HFB : Hid (fb st B1 = b) := by rw [← hBB.out]; exact fb_end (by omega)
          clear hbn
          go_wp2
          clear g0 g1
          by_cases hFB : b = B1
          · have e2 : ((b : Int) == (B1 : Int)) = true := by rw [beq_iff_eq]; omega
            have HE := Lib.hid hFB
            have hrb : r = some (bb0 st A, b) := by
              rw [HRT.out]
              unfold brd
              simp only [← HB1.out]
              rw [if_pos (by rw [HFB.out]; exact HE.out), HE.out]
            have HRB := Lib.hid hrb
            clear hrb hFB
            go_wp2
            go_loop [13] (fun u => ∃ v : Nat, v ≤ A ∧ u = .int .i64 v ∧ Hid (bb0 st v = bb0 st A)) (fun u => (RowKit.intOf u).toNat)
            case atStart => exact ⟨A, Nat.le_refl _, rfl, rfl⟩
            case round =>
              obtain ⟨v, hv, rfl, hBV⟩ := hrel
              by_cases hv0 : 0 < v
              · obtain ⟨u, hu⟩ : ∃ u, v = u + 1 := ⟨v - 1, by omega⟩
                have hus : u < st.size := by omega
                have ho := of5_kl st true u hus V3
                have g0 : decide (0 < v) = true := decide_eq_true hv0
                have g00 : decide ((0 : Int) < (v : Int)) = true := decide_eq_true (by omega)
                have g1 : (u : Int) < (st.size : Int) := by omega
                have hwM : IntKind.i64.wrap ((v : Int) - 1) = (u : Int) := by rw [IntKind.wrap_i64]; omega
                have HM := Lib.hid hu
                clear hu hv0
                by_cases hb : kl st true u = 0
                · have e3 : (kl st true u == 0) = true := by rw [beq_iff_eq]; exact hb
                  have HY := Lib.hid (bb0_yes hb)
                  generalize kl st true u = z at *
                  clear hb
                  go_wp2_with fail
                  refine ho.mono ?_
                  rintro e w' ⟨rfl, rfl⟩
                  clear ho
                  go_wp2
                  go_round
                  case rel => exact ⟨u, by have := HM.out; omega, rfl, by rw [HY.out, ← HM.out]; exact hBV.out⟩
                  case measure => have := HM.out; simp [RowKit.intOf]; omega
                · have e3 : (kl st true u == 0) = false := by rw [beq_eq_false_iff_ne]; exact hb
                  have HY := Lib.hid (bb0_no hb)
                  generalize kl st true u = z at *
                  have hrq : r = some (v, b) := by rw [HRB.out, ← hBV.out, HM.out, HY.out]
                  have HRQ := Lib.hid hrq
                  clear hb hrq
                  go_wp2_with fail
                  refine ho.mono ?_
                  rintro e w' ⟨rfl, rfl⟩
                  clear ho
                  have hco := fun W => in_any i v b W
                  go_wp2_with fail
                  refine (hco _).mono ?_
                  rintro e V9 ⟨rfl, hb9⟩
                  have T9 := HTV3.out.on hb9
                  clear hb9 hco p0 p1 x0 x1
                  have r0 := T9.rg.c0
                  have r1 := T9.rg.c1
                  have r2 := T9.rg.c2
                  have r3 := T9.rg.c3
                  have r4 := T9.rg.c4
                  have z := T9.rg.z
                  go_wp2
                  obtain ⟨hg, hb⟩ := T9.ret 0 i v i b
                  exact ret_rb (g := w.heap.size + 1) rfl rfl rfl rfl hg ⟨by rw [HRQ.out]; rfl, hb⟩
              · have hvz : v = 0 := by omega
                have g0 : decide (0 < v) = false := decide_eq_false hv0
                have g00 : decide ((0 : Int) < (v : Int)) = false := decide_eq_false (by omega)
                have hrq : r = some (v, b) := by rw [HRB.out, ← hBV.out, hvz]; rfl
                have HRQ := Lib.hid hrq
                clear hrq hvz hv0
                have hco := fun W => in_any i v b W
                go_wp2_with fail
                refine (hco _).mono ?_
                rintro e V9 ⟨rfl, hb9⟩
                have T9 := HTV3.out.on hb9
                clear hb9 hco p0 p1 x0 x1
                have r0 := T9.rg.c0
                have r1 := T9.rg.c1
                have r2 := T9.rg.c2
                have r3 := T9.rg.c3
                have r4 := T9.rg.c4
                have z := T9.rg.z
                go_wp2
                obtain ⟨hg, hb⟩ := T9.ret 0 i v i b
                exact ret_rb (g := w.heap.size + 1) rfl rfl rfl rfl hg ⟨by rw [HRQ.out]; rfl, hb⟩
          · have e2 : ((b : Int) == (B1 : Int)) = false := by rw [beq_eq_false_iff_ne]; omega
            have hrq : r = some (A, b) := by
              rw [HRT.out]
              unfold brd
              simp only [← HB1.out]
              rw [if_neg (by rw [HFB.out]; exact hFB), HFB.out]
            have HRQ := Lib.hid hrq
            clear hrq hFB
            go_wp2
            go_loop [13] (fun u => u = .int .i64 (A : Int)) (fun u => 0)
            case atStart => rfl
            case round =>
              subst hrel
              have hco := fun W => in_any i A b W
              go_wp2_with fail
              refine (hco _).mono ?_
              rintro e V9 ⟨rfl, hb9⟩
              have T9 := HTV3.out.on hb9
              clear hb9 hco p0 p1 x0 x1
              have r0 := T9.rg.c0
              have r1 := T9.rg.c1
              have r2 := T9.rg.c2
              have r3 := T9.rg.c3
              have r4 := T9.rg.c4
              have z := T9.rg.z
              go_wp2
              obtain ⟨hg, hb⟩ := T9.ret 0 i A i b
              exact ret_rb (g := w.heap.size + 1) rfl rfl rfl rfl hg ⟨by rw [HRQ.out]; rfl, hb⟩
end Go.Proofs.Ytfcedllgidhnfaa.Wo
