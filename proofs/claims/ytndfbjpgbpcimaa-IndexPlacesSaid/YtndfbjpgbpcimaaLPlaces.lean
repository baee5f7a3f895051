/-
  The law IndexPlaces, walked: up to where all starts are there.
-/
import Derived.Test.YtndfbjpgbpcimaaLPl
import Derived.Deep.CutRange
import Derived.Deep.CutBlock
import Derived.BigQuiet
import Derived.Deep.QuietTactic
set_option linter.unusedVariables false
namespace Go.Proofs.Ytndfbjpgbpcimaa.LPlc
open Go Go.RowKit Go.Proofs.Ytndfbjpgbpcimaa.Vk Go.Proofs.Ytndfbjpgbpcimaa.Lm Go.Proofs.Ytndfbjpgbpcimaa.Lx Go.Proofs.Ytndfbjpgbpcimaa.Str Go.Shelf
open VecI (E infoE underS)
attribute [local go_sem] Oper.semAt_some

set_option maxRecDepth 100000 in
theorem long (s : ByteArray) (off l c line : Int) (w : World) (hs : s.size ≤ 140737488355328) (h : 200 < s.size) :
    Calls Try.prog 4 #[.string s, .int .i64 off, .agg #[.int .i64 l, .int .i64 c], .int .i64 line] w fun e w' => e = .returned (.bool true) ∧ Below w.heap.size w w' := by
  have hd : decide (200 < (s.size : Int)) = true := decide_eq_true (by omega)
  go_enter Try.func4, Try.ntmps4
  go_wp2_with fail
  refine (known_any _).mono ?_
  rintro e w1 ⟨rfl, hb⟩
  have hbw : Below w.heap.size w w1 := ((Below.refl _ w).alloc (Nat.le_refl _) _).trans (hb.mono (by simp))
  clear hb
  go_wp2
  go_ret
  exact ⟨rfl, hbw⟩

set_option maxHeartbeats 8000000 in
set_option maxRecDepth 100000 in
theorem short (s : ByteArray) (off l c line : Int) (w : World) (hs : s.size ≤ 200) (hl : -9223372036854775808 ≤ l ∧ l ≤ 9223372036854775807) (hc : -9223372036854775808 ≤ c ∧ c ≤ 9223372036854775807) (hli : -9223372036854775808 ≤ line ∧ line ≤ 9223372036854775807) :
    Calls Try.prog 4 #[.string s, .int .i64 off, .agg #[.int .i64 l, .int .i64 c], .int .i64 line] w fun e w' => e = .returned (.bool true) ∧ Below w.heap.size w w' := by
  obtain ⟨i0, hi, hz0, hz1, hz2⟩ := info_parts infoE
  have hd : decide (200 < (s.size : Int)) = false := decide_eq_false (by omega)
  have hsl := size_str s
  obtain ⟨T, hT⟩ : ∃ T, T = s.data.toList := ⟨_, rfl⟩
  rw [← hT] at hsl
  obtain ⟨w0, hw0⟩ : ∃ w0, w0 = w.alloc (.cells #[.int .i64 l, .int .i64 c] 33) := ⟨_, rfl⟩
  have hrow0 : w0.heap[w.heap.size]? = some (.cells #[.int .i64 l, .int .i64 c] 33 (0, 0)) := by rw [hw0]; exact heap_alloc_new w _
  have hb0 : Below w.heap.size w w0 := by rw [hw0]; exact (Below.refl _ w).alloc (Nat.le_refl _) _
  have hs0 : w0.heap.size = w.heap.size + 1 := by rw [hw0]; simp
  go_enter Try.func4, Try.ntmps4
  go_wp2_with fail
  rw [← hw0]
  refine (known_any _).mono ?_
  rintro e w1 ⟨rfl, hb1⟩
  go_wp2_with fail
  refine (new_any s w1 (by omega)).mono ?_
  rintro e w2 ⟨p, F, rfl, hix, hb2⟩
  rw [← hT] at hix
  have hs1 := hb1.size
  have hs2 := hb2.size
  have HTT := Lib.hid hT
  clear hT
  have hR0 : PRel w l c p w2.heap.size T (Lx.sti [] |>.take 0) none 0 0 w2 := ⟨hb0.trans ((hb1.mono (by omega)).trans (hb2.mono (by omega))), Nat.le_refl _, (hb2.block _ (by omega)).trans ((hb1.block _ (by omega)).trans hrow0), by omega, ⟨F, hix.mono (by omega), fun j hj => (hix.footLt j hj).2⟩, by
    rw [List.take_zero]; exact World.ownsRow_nil w2 w2.heap.size E 1⟩
  rw [List.take_zero] at hR0
  have HR0 := Lib.hid hR0
  clear hix hb1 hb2 hR0 hw0 hrow0 hb0 hs0
  go_wp2_with fail
  go_loopw [10, 11] (fun u10 u11 wr => ∃ (i k cc : Nat) (b : Option Addr), u11 = .int .i64 i ∧ u10 = .slice b k cc ∧ i ≤ s.size + 1 ∧ k = (hdl T i).length ∧ Hid (PRel w l c p w2.heap.size T (hdl T i) b k cc wr)) (fun _ u11 _ => s.size + 1 - (RowKit.intOf u11).toNat)
  case atStart => exact ⟨0, 0, 0, none, rfl, rfl, Nat.zero_le _, rfl, HR0⟩
  case round =>
    obtain ⟨i, k, cc, b, rfl, rfl, hin, hk, hR⟩ := hrel
    have hkl := hdl_length T i
    have HK := Lib.hid hk
    have hkb : k ≤ 201 := by omega
    clear hk hkl
    have hw_i : IntKind.i64.wrap ((i : Int) + 1) = (i : Int) + 1 := by rw [IntKind.wrap_i64]; omega
    by_cases hle : i ≤ s.size
    · have hdi : decide ((i : Int) ≤ s.size) = true := decide_eq_true (by omega)
      have hown := hR.out.2.2.2.2.2
      have hBs := hR.out.2.1
      have ha : ∀ x : Int, (wr.alloc (.cells #[.int .i64 x] E)).ownsRow w2.heap.size E 1 (.slice b k cc) k (iv (hdl T i)) := fun x => ownsRow_fr hown ((Fr.refl (fun _ => False) wr).alloc _) (by simp)
      by_cases h0 : i = 0
      · subst h0
        have hh : hdl T 1 = hdl T 0 ++ [0] := hdl_one T
        go_wp2_with (at_builtin; go_must (refine append_srcv _ rfl _ _ 34 rfl w2.heap.size E i0 (.int .i64 0) 1 8 underS hi hz0 hz1 hz2 rfl (by decide) _ k (iv (hdl T 0)) rfl (ha (0 : Int)) _ 1 [.int .i64 (0 : Int)] rfl (SrcV.lit wr #[.int .i64 (0 : Int)] E 1 rfl (by simp [Value.oneCell']) (by decide)) (by simp only [maxLen]; omega) (by omega) (by simp; omega) ?_); intro gb gc w5 hown5 hg5 hnr5)
        rw [show iv (hdl T 0) ++ [Value.int .i64 0] = iv (hdl T 1) by rw [hh]; simp [iv]] at hown5
        have HR5 := Lib.hid (PRel.grow hR.out hg5 hown5)
        have hk5 : k + 1 = (hdl T 1).length := by rw [hh, List.length_append, ← HK.out]; rfl
        clear hown5 hg5 hnr5 hh ha hown
        go_wp2
        go_roundw
        case rel => exact ⟨1, k + 1, gc, gb, by go_num, rfl, by omega, hk5, HR5⟩
        case measure => simp [RowKit.intOf] <;> omega
      · have d0 : ((i : Int) == 0) = false := beq_eq_false_iff_ne.2 (by omega)
        have hlt : i - 1 < s.size := by omega
        have hsu := hdl_succ T i (by omega) (by omega)
        have hg : T[i - 1]'(by omega) = s[i - 1] := by
          have : ∀ (l : List UInt8) (hl : l = s.data.toList) (h : i - 1 < l.length), l[i - 1] = s[i - 1] := by intro l hl h; subst hl; rfl
          exact this T HTT.out _
        rw [hg] at hsu
        have hw_1 : IntKind.i64.wrap ((i : Int) - 1) = ((i - 1 : Nat) : Int) := by rw [IntKind.wrap_i64]; omega
        by_cases h10 : s[i - 1] = 10
        · have hcc : (((s[i - 1]'hlt).toNat : Int) == 10) = true := by rw [h10]; rfl
          have hh : hdl T (i + 1) = hdl T i ++ [(i : Int)] := by rw [hsu, if_pos h10]
          clear h10 hsu hg
          go_wp2_with (at_builtin; go_must (refine append_srcv _ rfl _ _ 34 rfl w2.heap.size E i0 (.int .i64 0) 1 8 underS hi hz0 hz1 hz2 rfl (by decide) _ k (iv (hdl T i)) rfl (ha ((i : Nat) : Int)) _ 1 [.int .i64 ((i : Nat) : Int)] rfl (SrcV.lit wr #[.int .i64 ((i : Nat) : Int)] E 1 rfl (by simp [Value.oneCell']) (by decide)) (by simp only [maxLen]; omega) (by omega) (by simp; omega) ?_); intro gb gc w5 hown5 hg5 hnr5)
          rw [show iv (hdl T i) ++ [Value.int .i64 (i : Int)] = iv (hdl T (i + 1)) by rw [hh]; simp [iv]] at hown5
          have HR5 := Lib.hid (PRel.grow hR.out hg5 hown5)
          have hk5 : k + 1 = (hdl T (i + 1)).length := by rw [hh, List.length_append, ← HK.out]; rfl
          clear hown5 hg5 hnr5 hh ha hown
          go_wp2
          go_roundw
          case rel => exact ⟨i + 1, k + 1, gc, gb, by go_num, rfl, by omega, hk5, HR5⟩
          case measure => simp [RowKit.intOf] <;> omega
        · have hcc : (((s[i - 1]'hlt).toNat : Int) == 10) = false := by
            rw [beq_eq_false_iff_ne]; intro h; apply h10; apply UInt8.toNat_inj.1; have : (10 : UInt8).toNat = 10 := rfl; omega
          have hh : hdl T (i + 1) = hdl T i := by rw [hsu, if_neg h10, List.append_nil]
          have hk5 : k = (hdl T (i + 1)).length := by rw [hh]; exact HK.out
          have HR5 : Hid (PRel w l c p w2.heap.size T (hdl T (i + 1)) b k cc wr) := Lib.hid (by rw [hh]; exact hR.out)
          clear h10 hsu hg hh ha hown
          go_wp2
          go_roundw
          case rel => exact ⟨i + 1, k, cc, b, by go_num, rfl, by omega, hk5, HR5⟩
          case measure => simp [RowKit.intOf] <;> omega
    · have hdi : decide ((i : Int) ≤ s.size) = false := decide_eq_false (by omega)
      have hown := hR.out.2.2.2.2.2
      have hBs := hR.out.2.1
      have ha : ∀ x : Int, (wr.alloc (.cells #[.int .i64 x] E)).ownsRow w2.heap.size E 1 (.slice b k cc) k (iv (hdl T i)) := fun x => ownsRow_fr hown ((Fr.refl (fun _ => False) wr).alloc _) (by simp)
      have hie : i = T.length + 1 := by omega
      have hx : hdl T i = sti T := by rw [hie]; exact hdl_all T
      have hkn : k = (st T).length := by rw [HK.out, hx, sti_length]
      have hn0 := st_pos T
      have HX := Lib.hid (And.intro hx hsl)
      have HKN := Lib.hid hkn
      have HKN2 := Lib.hid hkn.symm
      have hsl2 : T.length ≤ 200 := by omega
      have hw_n : IntKind.i64.wrap ((s.size : Int) + 1) = (s.size : Int) + 1 := by rw [IntKind.wrap_i64]; omega
      have hw_12 : IntKind.i64.wrap ((k : Int) + 1 - 1) = (k : Int) := by rw [IntKind.wrap_i64]; omega
      have hw_13 : IntKind.i64.wrap (((k + 1 : Nat) : Int) - 1) = (k : Int) := by rw [IntKind.wrap_i64]; omega
      clear hie hx hkn hw_i
      go_wp2_with (at_builtin; go_must (refine append_srcv _ rfl _ _ 34 rfl w2.heap.size E i0 (.int .i64 0) 1 8 underS hi hz0 hz1 hz2 rfl (by decide) _ k (iv (hdl T i)) rfl (ha ((s.size : Int) + 1)) _ 1 [.int .i64 ((s.size : Int) + 1)] rfl (SrcV.lit wr #[.int .i64 ((s.size : Int) + 1)] E 1 rfl (by simp [Value.oneCell']) (by decide)) (by simp only [maxLen]; omega) (by omega) (by simp; omega) ?_); intro gb gc w5 hown5 hg5 hnr5)
      rw [show iv (hdl T i) ++ [Value.int .i64 ((s.size : Int) + 1)] = iv (sti T ++ [(T.length : Int) + 1]) by rw [HX.out.1, HX.out.2]; simp [iv]] at hown5
      obtain ⟨g, rfl⟩ : ∃ g, gb = some ⟨g, 0, none⟩ := by
        rcases hown5.2 with ⟨h, h0⟩ | ⟨g, cap, cur, h, _⟩
        · omega
        · simp only [Value.slice.injEq] at h; exact ⟨g, h.1⟩
      have HF := Lib.hid (PRel.grow hR.out hg5 hown5).fin
      obtain ⟨N1, hN1⟩ : ∃ N1, N1 = k + 1 := ⟨_, rfl⟩
      rw [← hN1]
      clear hown5 hg5 hnr5 hR hown ha hw_12 hw_13 hw_n
      have HN := Lib.hid (And.intro hN1 (show k ≤ 201 by omega))
      have hNb : (N1 : Int) = (k : Int) + 1 := by omega
      have hline := HF.out.line line hsl2
      rw [HKN2.out] at hline
      obtain ⟨sv, kv, inb, hst, hsz, hfact⟩ := hline
      have HFA := Lib.hid hfact
      clear hN1 hNb hfact
      go_wp2_with fail
      refine hst.mono ?_
      rintro e w' ⟨rfl, rfl⟩
      go_wp2_with fail
      refine hsz.mono ?_
      rintro e w' ⟨rfl, rfl⟩
      clear hst hsz
      go_upto_region 16 with fail
      go_cut [17] from 70 to 76 (fun c17 wx => c17 = .bool inb ∧ wx = w5)
      case first =>
        rcases HFA.out with ⟨rfl, m, A, S, rfl, hm, -⟩ | ⟨rfl, hno, -⟩
        · have hmk : m < k := by have := HKN.out; omega
          have d1 : decide (m < k) = true := decide_eq_true hmk
          have d2 : decide ((m : Int) < k) = true := decide_eq_true (by omega)
          have b0 : (0 : Int) ≤ (m : Int) := by omega
          go_wp2
          go_meet
          case rel => exact ⟨rfl, rfl⟩
        · by_cases hl0 : 0 ≤ line
          · have d0 : decide (0 ≤ line) = true := decide_eq_true hl0
            have d2 : decide (line < (k : Int)) = false := decide_eq_false (by have := HKN.out; omega)
            clear hno
            go_wp2
            go_meet
            case rel => exact ⟨rfl, rfl⟩
          · have d0 : decide (0 ≤ line) = false := decide_eq_false hl0
            clear hno
            go_wp2
            go_meet
            case rel => exact ⟨rfl, rfl⟩
      case rest =>
        obtain ⟨rfl, rfl⟩ := hcut
        go_upto_region 17 with fail
        go_cut [122] from 77 to 122 (fun cv wx => cv = .bool false ∧ Hid (PFin w l c p g T wx))
        case first =>
          rcases HFA.out with ⟨rfl, m, A, S, rfl, hm, rfl, rfl, hAS, hA0, hA1⟩ | ⟨rfl, hno, rfl, rfl⟩
          · have hN := HN.out
            have c0 := HF.out.2.2.2.2.1 m (by have := HKN.out; omega)
            have c1 := HF.out.2.2.2.2.1 (m + 1) (by have := HKN.out; omega)
            rw [hA0] at c0
            rw [hA1, show ((A + S + 1 : Nat) : Int) = (A : Int) + S + 1 by omega] at c1
            have v0 : IntKind.i64.wrap ((m : Int) + 1) = (m : Int) + 1 := by rw [IntKind.wrap_i64]; have := HKN.out; omega
            have v1 : IntKind.i64.wrap ((A : Int) + S) = (A : Int) + S := by rw [IntKind.wrap_i64]; omega
            have v2 : IntKind.i64.wrap ((A : Int) + S - A) = (S : Int) := by rw [IntKind.wrap_i64]; omega
            have htn : ((m : Int) + 1).toNat = m + 1 := by omega
            have b0 : (0 : Int) ≤ (m : Int) := by omega
            have b1 : (m : Int) < (N1 : Int) := by have := HKN.out; omega
            have b2 : (0 : Int) ≤ (m : Int) + 1 := by omega
            have b3 : (m : Int) + 1 < (N1 : Int) := by have := HKN.out; omega
            clear hN hm hAS hA0 hA1
            go_quiet (fail)
            go_wp2
            go_meet
            case rel => exact ⟨rfl, Lib.hid (HF.out.drewN nq)⟩
          · clear hno
            go_quiet (fail)
            go_wp2
            go_meet
            case rel => exact ⟨rfl, Lib.hid (HF.out.drewN nq)⟩
        case rest =>
          obtain ⟨rfl, HF6⟩ := hcut
          have x0 := HF6.out.2.1
          have x1 := HF6.out.2.2.1
          obtain ⟨ov, thr, hof, hpl⟩ := HF6.out.place hsl2
          have HPL := Lib.hid hpl
          clear hpl
          go_wp2_with fail
          refine hof.mono ?_
          rintro e w7 ⟨rfl, hb7⟩
          have HF7 := Lib.hid (HF6.out.keep hb7)
          clear hb7 hof x0 x1
          have x0 := HF7.out.2.1
          have x1 := HF7.out.2.2.1
          go_upto_region 20 with fail
          go_cut [20] from 129 to 160 (fun cv wx => cv = .bool thr ∧ Hid (PFin w l c p g T wx))
          case first =>
            rcases HPL.out with ⟨rfl, m, d, A, S, rfl, rfl, hm, hdS, rfl, hAS, hA0, hA1⟩ | ⟨rfl, rfl, h0 | ⟨h0, h1⟩ | ⟨m, A, S, rfl, hm, hAS, hA0, hA1, h2 | ⟨h2, h3⟩⟩⟩
            · have hN := HN.out
              have c0 := HF7.out.2.2.2.2.1 m (by have := HKN.out; omega)
              have c1 := HF7.out.2.2.2.2.1 (m + 1) (by have := HKN.out; omega)
              rw [hA0] at c0
              rw [hA1, show ((A + S + 1 : Nat) : Int) = (A : Int) + S + 1 by omega] at c1
              have v0 : IntKind.i64.wrap ((m : Int) + 1) = (m : Int) + 1 := by rw [IntKind.wrap_i64]; have := HKN.out; omega
              have v1 : IntKind.i64.wrap ((A : Int) + S) = (A : Int) + S := by rw [IntKind.wrap_i64]; omega
              have v2 : IntKind.i64.wrap ((A : Int) + S - A) = (S : Int) := by rw [IntKind.wrap_i64]; omega
              have htn : ((m : Int) + 1).toNat = m + 1 := by omega
              have b0 : (0 : Int) ≤ (m : Int) := by omega
              have b1 : (m : Int) < (N1 : Int) := by have := HKN.out; omega
              have b2 : (0 : Int) ≤ (m : Int) + 1 := by omega
              have b3 : (m : Int) + 1 < (N1 : Int) := by have := HKN.out; omega
              have d1 : decide (m < k) = true := decide_eq_true (by have := HKN.out; omega)
              have d2 : decide ((m : Int) < k) = true := decide_eq_true (by have := HKN.out; omega)
              have d3 : decide (d ≤ S) = true := decide_eq_true hdS
              have b4 : (0 : Int) ≤ (d : Int) := by omega
              clear hN hm hAS hA0 hA1
              go_quiet (fail)
              go_wp2
              go_meet
              case rel => exact ⟨rfl, Lib.hid (HF7.out.drewN nq)⟩
            · have d0 : decide (0 ≤ l) = false := decide_eq_false (by omega)
              go_quiet (fail)
              go_wp2
              go_meet
              case rel => exact ⟨rfl, Lib.hid (HF7.out.drewN nq)⟩
            · have d0 : decide (0 ≤ l) = true := decide_eq_true h0
              have d1 : decide (l < (k : Int)) = false := decide_eq_false (by have := HKN.out; omega)
              clear h1
              go_quiet (fail)
              go_wp2
              go_meet
              case rel => exact ⟨rfl, Lib.hid (HF7.out.drewN nq)⟩
            · have hN := HN.out
              have c0 := HF7.out.2.2.2.2.1 m (by have := HKN.out; omega)
              have c1 := HF7.out.2.2.2.2.1 (m + 1) (by have := HKN.out; omega)
              rw [hA0] at c0
              rw [hA1, show ((A + S + 1 : Nat) : Int) = (A : Int) + S + 1 by omega] at c1
              have v0 : IntKind.i64.wrap ((m : Int) + 1) = (m : Int) + 1 := by rw [IntKind.wrap_i64]; have := HKN.out; omega
              have v1 : IntKind.i64.wrap ((A : Int) + S) = (A : Int) + S := by rw [IntKind.wrap_i64]; omega
              have v2 : IntKind.i64.wrap ((A : Int) + S - A) = (S : Int) := by rw [IntKind.wrap_i64]; omega
              have htn : ((m : Int) + 1).toNat = m + 1 := by omega
              have b0 : (0 : Int) ≤ (m : Int) := by omega
              have b1 : (m : Int) < (N1 : Int) := by have := HKN.out; omega
              have b2 : (0 : Int) ≤ (m : Int) + 1 := by omega
              have b3 : (m : Int) + 1 < (N1 : Int) := by have := HKN.out; omega
              have d1 : decide (m < k) = true := decide_eq_true (by have := HKN.out; omega)
              have d2 : decide ((m : Int) < k) = true := decide_eq_true (by have := HKN.out; omega)
              have d3 : decide (0 ≤ c) = false := decide_eq_false (by omega)
              clear hN hm hAS hA0 hA1
              go_quiet (fail)
              go_wp2
              go_meet
              case rel => exact ⟨rfl, Lib.hid (HF7.out.drewN nq)⟩
            · have hN := HN.out
              have c0 := HF7.out.2.2.2.2.1 m (by have := HKN.out; omega)
              have c1 := HF7.out.2.2.2.2.1 (m + 1) (by have := HKN.out; omega)
              rw [hA0] at c0
              rw [hA1, show ((A + S + 1 : Nat) : Int) = (A : Int) + S + 1 by omega] at c1
              have v0 : IntKind.i64.wrap ((m : Int) + 1) = (m : Int) + 1 := by rw [IntKind.wrap_i64]; have := HKN.out; omega
              have v1 : IntKind.i64.wrap ((A : Int) + S) = (A : Int) + S := by rw [IntKind.wrap_i64]; omega
              have v2 : IntKind.i64.wrap ((A : Int) + S - A) = (S : Int) := by rw [IntKind.wrap_i64]; omega
              have htn : ((m : Int) + 1).toNat = m + 1 := by omega
              have b0 : (0 : Int) ≤ (m : Int) := by omega
              have b1 : (m : Int) < (N1 : Int) := by have := HKN.out; omega
              have b2 : (0 : Int) ≤ (m : Int) + 1 := by omega
              have b3 : (m : Int) + 1 < (N1 : Int) := by have := HKN.out; omega
              have d1 : decide (m < k) = true := decide_eq_true (by have := HKN.out; omega)
              have d2 : decide ((m : Int) < k) = true := decide_eq_true (by have := HKN.out; omega)
              have d3 : decide (0 ≤ c) = true := decide_eq_true h2
              have d4 : decide (c ≤ (S : Int)) = false := decide_eq_false (by omega)
              clear hN hm hAS hA0 hA1 h3
              go_quiet (fail)
              go_wp2
              go_meet
              case rel => exact ⟨rfl, Lib.hid (HF7.out.drewN nq)⟩
          case rest =>
            obtain ⟨rfl, HF8⟩ := hcut
            clear x0 x1
            have x0 := HF8.out.2.1
            have x1 := HF8.out.2.2.1
            go_upto_region 21 with fail
            go_cut [186] from 161 to 186 (fun cv wx => cv = .bool false ∧ Hid (PFin w l c p g T wx))
            case first =>
              rcases HPL.out with ⟨rfl, m, d, A, S, rfl, rfl, hm, hdS, rfl, hAS, hA0, hA1⟩ | ⟨rfl, rfl, -⟩
              · have hN := HN.out
                have c0 := HF8.out.2.2.2.2.1 m (by have := HKN.out; omega)
                rw [hA0] at c0
                have b0 : (0 : Int) ≤ (m : Int) := by omega
                have b1 : (m : Int) < (N1 : Int) := by have := HKN.out; omega
                have v1 : IntKind.i64.wrap ((A : Int) + d) = (A : Int) + d := by rw [IntKind.wrap_i64]; omega
                clear hN hm hAS hA0 hA1
                go_quiet (fail)
                go_wp2
                go_meet
                case rel => exact ⟨rfl, Lib.hid (HF8.out.drewN nq)⟩
              · go_quiet (fail)
                go_wp2
                go_meet
                case rel => exact ⟨rfl, Lib.hid (HF8.out.drewN nq)⟩
            case rest =>
              obtain ⟨rfl, HF9⟩ := hcut
              obtain ⟨x, y, bb, hat, hbb⟩ := HF9.out.spot off hsl2
              rw [HX.out.2] at hbb
              have HB := Lib.hid hbb
              clear hbb x0 x1
              go_wp2_with fail
              refine hat.mono ?_
              rintro e w8 ⟨rfl, hb8⟩
              have HBB := Lib.hid ((HF9.out.keep hb8).1)
              clear hb8 hat
              have hbend : ∀ o : Obj, Below w.heap.size w (w8.alloc o) := fun o => HBB.out.alloc HBB.out.size o
              have HBE := Lib.hid hbend
              clear hbend
              by_cases h0 : 0 ≤ off
              · have d0 : decide (0 ≤ off) = true := decide_eq_true h0
                by_cases h1 : off ≤ s.size
                · have d1 : decide (off ≤ (s.size : Int)) = true := decide_eq_true h1
                  obtain rfl : bb = true := by rw [HB.out]; exact decide_eq_true ⟨h0, h1⟩
                  clear h0 h1
                  go_wp2
                  go_ret
                  exact ⟨rfl, HBE.out _⟩
                · have d1 : decide (off ≤ (s.size : Int)) = false := decide_eq_false h1
                  obtain rfl : bb = false := by rw [HB.out]; exact decide_eq_false (fun h => h1 h.2)
                  clear h0 h1
                  go_wp2
                  go_ret
                  exact ⟨rfl, HBE.out _⟩
              · have d0 : decide (0 ≤ off) = false := decide_eq_false h0
                obtain rfl : bb = false := by rw [HB.out]; exact decide_eq_false (fun h => h0 h.1)
                clear h0
                go_wp2
                go_ret
                exact ⟨rfl, HBE.out _⟩

theorem walk (s : ByteArray) (off l c line : Int) (w : World) (hs : s.size ≤ 140737488355328) (ho : (Lit.int .i64 off).wf = true) (hl : (Lit.int .i64 l).wf = true) (hc : (Lit.int .i64 c).wf = true) (hli : (Lit.int .i64 line).wf = true) :
    Calls Try.prog 4 #[.string s, .int .i64 off, .agg #[.int .i64 l, .int .i64 c], .int .i64 line] w fun e w' => e = .returned (.bool true) ∧ Below w.heap.size w w' := by
  by_cases h : 200 < s.size
  · exact long s off l c line w hs h
  · exact short s off l c line w (by omega) (by simpa [Lit.wf, IntKind.min, IntKind.max, IntKind.signed, IntKind.bits] using hl) (by simpa [Lit.wf, IntKind.min, IntKind.max, IntKind.signed, IntKind.bits] using hc) (by simpa [Lit.wf, IntKind.min, IntKind.max, IntKind.signed, IntKind.bits] using hli)

end Go.Proofs.Ytndfbjpgbpcimaa.LPlc
