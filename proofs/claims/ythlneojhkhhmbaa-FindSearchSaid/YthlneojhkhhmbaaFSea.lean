/-
  The law FindSearch, walked.
-/
import Derived.Test.YthlneojhkhhmbaaFn
import Derived.Test.YthlneojhkhhmbaaMo
import Derived.Test.YthlneojhkhhmbaaF5
set_option linter.unusedVariables false
set_option linter.unusedSimpArgs false
set_option maxRecDepth 100000
namespace Go.Proofs.Ythlneojhkhhmbaa.FSea
open Go Go.RowKit Go.Proofs.Ythlneojhkhhmbaa.Vk Go.Proofs.Ythlneojhkhhmbaa.Str Go.Proofs.Ythlneojhkhhmbaa.Ln Go.Proofs.Ythlneojhkhhmbaa.Cl Go.Proofs.Ythlneojhkhhmbaa.Mv Go.Proofs.Ythlneojhkhhmbaa.Wd Go.Proofs.Ythlneojhkhhmbaa.Fd
attribute [local go_sem] Oper.semAt_some
set_option maxHeartbeats 8000000

theorem walk (a : Option Addr) (n c' : Nat) (ls : List ByteArray) (l c x y : Int) (pt : ByteArray) (q kn : Int) (back : Bool) (w : World) (h : Ss w a n c' ls) (hs : ∀ s ∈ ls, s.size ≤ 140737488355328) (hl : (Lit.int .i64 l).wf = true) (hc : (Lit.int .i64 c).wf = true) (hx : (Lit.int .u16 x).wf = true) (hy : (Lit.int .u16 y).wf = true) (hp0 : pt.size ≤ 140737488355328) (hq0 : (Lit.int .u8 q).wf = true) (hkn : (Lit.int .i64 kn).wf = true) :
    Calls Try.prog 4 #[.slice a n c', .agg #[.int .i64 l, .int .i64 c], .int .u16 x, .int .u16 y, .string pt, .int .u8 q, .int .i64 kn, .bool back] w fun e w' => e = .returned (.bool true) ∧ Below w.heap.size w w' := by
  obtain ⟨w0, hw0⟩ : ∃ w0, w0 = w.alloc (.cells #[.int .i64 l, .int .i64 c] 27) := ⟨_, rfl⟩
  have hk := known_any w0
  have x2 : 0 ≤ x ∧ x ≤ 65535 := by simpa [Lit.wf, IntKind.min, IntKind.max, IntKind.signed, IntKind.bits] using hx
  have y2 : 0 ≤ y ∧ y ≤ 65535 := by simpa [Lit.wf, IntKind.min, IntKind.max, IntKind.signed, IntKind.bits] using hy
  have q2 : 0 ≤ q ∧ q ≤ 255 := by simpa [Lit.wf, IntKind.min, IntKind.max, IntKind.signed, IntKind.bits] using hq0
  obtain ⟨J, hJ, hJ5⟩ : ∃ J : Nat, q % 4 = (J : Int) ∧ J < 4 := ⟨(q % 4).toNat, by omega, by omega⟩
  have hJt : q.tmod 4 = (J : Int) := by rw [Int.tmod_eq_emod_of_nonneg q2.1]; exact hJ
  have hwJ : IntKind.i64.wrap (J : Int) = (J : Int) := by rw [IntKind.wrap_i64]; omega
  have eq9 : IntKind.i64.wrap (kn.tmod 9) = kn.tmod 9 := by
    have h1 := Int.tmod_lt_of_pos kn (b := 9) (by omega)
    have h2 := Int.lt_tmod_of_pos kn (b := 9) (by omega)
    rw [IntKind.wrap_i64]; omega
  have hb0 : Below w.heap.size w w0 := by rw [hw0]; exact (Below.refl _ w).alloc (Nat.le_refl _) _
  have hr0 : PosAt w0 w.heap.size l c := by rw [hw0]; exact PosAt.new w l c
  have HW0 := Lib.hid hw0
  clear hw0
  go_enter Try.func4, Try.ntmps4
  go_wp2_with fail
  rw [← HW0.out]
  refine hk.mono ?_
  rintro e w1 ⟨rfl, hb1⟩
  have hs1 := SrcV.below h (hb0.trans (hb1.mono hb0.size))
  have HB1 := Lib.hid (hb0.trans (hb1.mono hb0.size))
  have hr1 := hr0.below hb1 hr0.lt
  have HRW := Lib.hid (show w.heap.size < w1.heap.size from hr1.lt)
  clear hb0 hr0 HW0
  have htx := text_any a n c' ls w1 hs1 hs
  have HS1 := Lib.hid hs1
  clear hk hb1 h hs1
  go_wp2_with fail
  refine htx.mono ?_
  rintro e w' ⟨qq, rfl, rfl, hq⟩
  clear htx
  cases qq
  · clear hq
    go_wp2
    go_ret
    exact ⟨rfl, HB1.out⟩
  obtain ⟨hn0, hn40, hz, _⟩ := hq rfl
  clear hq
  by_cases h60 : 60 < pt.size
  · have d0 : decide (60 < pt.size) = true := decide_eq_true h60
    have d1 : decide ((60 : Int) < (pt.size : Int)) = true := decide_eq_true (by omega)
    clear h60
    go_wp2
    go_ret
    exact ⟨rfl, HB1.out⟩
  have d0 : decide (60 < pt.size) = false := decide_eq_false h60
  have d1 : decide ((60 : Int) < (pt.size : Int)) = false := decide_eq_false (by omega)
  have hptz : pt.size ≤ 60 := by omega
  clear h60
  have hse := seat_any a n c' ls x y w1 HS1.out hn0 hs x2 y2
  go_wp2_with fail
  refine hse.mono ?_
  rintro e w2 ⟨⟨i, m, rfl, hi, hm⟩, hb⟩
  have D := Lib.hid hb
  clear hse hb
  clear d0 d1
  have RW := Lib.hid (hr1.below D.out hr1.lt)
  obtain ⟨b_RW, hbr⟩ : ∃ b, b = w.heap.size := ⟨_, rfl⟩
  rw [← hbr] at RW HRW ⊢
  have n0 := Lib.hid hbr
  clear hr1 hbr
  go_upto_region 6 with fail
  obtain ⟨x2, hx2⟩ : ∃ x2, x2 = w2.alloc (.cells #[.int .i64 (i : Int), .int .i64 (m : Int)] 27) := ⟨_, rfl⟩
  have hA : Below w2.heap.size w2 x2 := by rw [hx2]; exact (Below.refl _ w2).alloc (Nat.le_refl _) _
  have hV := PosAt.new w2 (i : Int) (m : Int)
  rw [← hx2] at hV ⊢
  have lt_RW := RW.out.lt
  have gg_D := D.out.size
  have D := Lib.hid (below_on D.out hA)
  have RW := Lib.hid (RW.out.below hA RW.out.lt)
  obtain ⟨b_P, hbf⟩ : ∃ b, b = w2.heap.size := ⟨_, rfl⟩
  rw [← hbf] at hV ⊢
  have n_RW_P := Lib.hid (show b_RW ≠ b_P by omega)
  clear lt_RW
  have g_P_D := Lib.hid (show w1.heap.size ≤ b_P by rw [hbf]; exact gg_D)
  clear gg_D
  have P := Lib.hid hV
  clear hV hA hx2 hbf
  have c_RW := RW.out
  have RW0 := c_RW.c0
  have RW1 := c_RW.c1
  clear c_RW
  have c_P := P.out
  have P0 := c_P.c0
  have P1 := c_P.c1
  clear c_P
  have hlen := Ss.length HS1.out
  have hin : lineAt ls i ∈ ls := by rw [lineAt_get (by omega)]; exact List.getElem_mem _
  have hsz : (lineAt ls i).size + 1 ≤ tz ls := tz_mem _ _ hin
  obtain ⟨bs, os, ha, hcell, hnc, _⟩ := Ss.read HS1.out i (by omega)
  rw [← lineAt_get (by omega)] at hcell
  subst ha
  obtain ⟨st, hst⟩ : ∃ st, st = lineAt ls i := ⟨_, rfl⟩
  rw [← hst] at hcell hsz hm
  have fL := fun y : Gr x2 => y.cell (cell_later D.out hcell)
  have fP0 := fun y : Gr x2 => y.cell P0
  have fP1 := fun y : Gr x2 => y.cell P1
  have z0 : (m : Int) ≤ (st.size : Int) := by omega
  have HST := Lib.hid hst
  clear hst hin hcell hlen
  clear RW0 RW1 P0 P1
  refine wp_region_grow (by kernel_rfl) (by kernel_rfl) ?_
  repeat (go_big_quiet_step (fail))
  refine wpQuiet_nil ?_
  rintro w3 ⟨⟨_, hb⟩, rfl⟩
  clear fL fP0 fP1 z0
  obtain ⟨s1, hs1⟩ : ∃ s, s = st.extract m st.size := ⟨_, rfl⟩
  rw [← hs1]
  have D := Lib.hid (below_on D.out hb)
  have RW := Lib.hid (RW.out.below hb RW.out.lt)
  have P := Lib.hid (P.out.below hb P.out.lt)
  clear hb
  obtain ⟨Z, hZ⟩ : ∃ Z : Nat, Z = min J s1.size := ⟨_, rfl⟩
  have i1 : min (J : Int) (s1.size : Int) = (Z : Int) := by omega
  have i2 : (if (s1.size : Int) < (J : Int) then (s1.size : Int) else (J : Int)) = (Z : Int) := by omega
  have i3 : (if s1.size < J then (s1.size : Int) else (J : Int)) = (Z : Int) := by split <;> omega
  have i4 : min J s1.size = Z := hZ.symm
  have z1 : (Z : Int) ≤ (s1.size : Int) := by omega
  have z2 : Z ≤ s1.size := by omega
  obtain ⟨t2, ht2⟩ : ∃ s, s = s1.extract 0 Z := ⟨_, rfl⟩
  have hz2 : t2.size ≤ 1000 := by
    have h1 : t2.data.toList = (s1.data.toList.take Z) := by rw [ht2, ext_upto]
    have h2 := congrArg List.length h1
    rw [size_str, List.length_take, size_str] at h2
    omega
  have HZ := Lib.hid (And.intro hZ (And.intro hs1 ht2))
  clear hZ hs1 ht2
  go_upto_region 8 with fail
  rw [← HZ.out.2.2]
  clear i1 i2 i3 i4 z1 z2
  go_wp2
  obtain ⟨x4, hx4⟩ : ∃ x4, x4 = w3.alloc (.cells #[.string pt, .string t2] 9) := ⟨_, rfl⟩
  have hA : Below w3.heap.size w3 x4 := by rw [hx4]; exact (Below.refl _ w3).alloc (Nat.le_refl _) _
  have hV := RowAt.new w3 #[.string pt, .string t2] 9
  rw [← hx4] at hV ⊢
  have lt_RW := RW.out.lt
  have lt_P := P.out.lt
  have gg_D := D.out.size
  have D := Lib.hid (below_on D.out hA)
  have RW := Lib.hid (RW.out.below hA RW.out.lt)
  have P := Lib.hid (P.out.below hA P.out.lt)
  obtain ⟨b_Q, hbf⟩ : ∃ b, b = w3.heap.size := ⟨_, rfl⟩
  rw [← hbf] at hV ⊢
  have n_RW_Q := Lib.hid (show b_RW ≠ b_Q by omega)
  clear lt_RW
  have n_P_Q := Lib.hid (show b_P ≠ b_Q by omega)
  clear lt_P
  have g_Q_D := Lib.hid (show w1.heap.size ≤ b_Q by rw [hbf]; exact gg_D)
  clear gg_D
  have Q := Lib.hid hV
  clear hV hA hx4 hbf
  have c_RW := RW.out
  have RW0 := c_RW.c0
  have RW1 := c_RW.c1
  clear c_RW
  have c_P := P.out
  have P0 := c_P.c0
  have P1 := c_P.c1
  clear c_P
  clear RW0 RW1 P0 P1
  have HS4 := Lib.hid (SrcV.below HS1.out D.out)
  have HB4 := Lib.hid (below_on HB1.out D.out)
  clear D
  go_loopw [63] (fun i wr => ∃ k : Nat, k ≤ 2 ∧ i = .int .i64 k ∧ Hid (Below x4.heap.size x4 wr)) (fun i _ => 2 - (RowKit.intOf i).toNat)
  case atStart => exact ⟨0, by omega, rfl, Below.refl _ _⟩
  case round =>
    obtain ⟨k, hk2, rfl, D⟩ := hrel
    by_cases hk : k < 2
    rotate_left
    · obtain rfl : k = 2 := by omega
      go_wp2
      go_ret
      exact ⟨rfl, below_on HB4.out D.out⟩
    obtain ⟨t, htc, htz⟩ : ∃ t : ByteArray, wr.cell? ⟨b_Q, k, none⟩ = some (.string t) ∧ t.size ≤ 1000 := by
      have q := Q.out.below D.out Q.out.lt
      obtain rfl | rfl : k = 0 ∨ k = 1 := by omega
      · exact ⟨pt, q.at (k := 0) rfl, by omega⟩
      · exact ⟨t2, q.at (k := 1) rfl, hz2⟩
    have HK := Lib.hid hk
    have P := Lib.hid (P.out.below D.out P.out.lt)
    have RW := Lib.hid (RW.out.below D.out RW.out.lt)
    have c_RW := RW.out
    have RW0 := c_RW.c0
    have RW1 := c_RW.c1
    clear c_RW
    have c_P := P.out
    have P0 := c_P.c0
    have P1 := c_P.c1
    clear c_P
    go_upto_region 11 with fail
    clear hk htc
    rename (k : Int) < 2 => hki
    clear hki
    go_wp2
    obtain ⟨x5, hx5⟩ : ∃ x5, x5 = wr.alloc (.cells #[.int .i64 l, .int .i64 c, .int .i64 (i : Int), .int .i64 (m : Int), .int .i64 (i : Int), .int .i64 0] 27) := ⟨_, rfl⟩
    have hA : Below wr.heap.size wr x5 := by rw [hx5]; exact (Below.refl _ wr).alloc (Nat.le_refl _) _
    have hV := RowAt.new wr #[.int .i64 l, .int .i64 c, .int .i64 (i : Int), .int .i64 (m : Int), .int .i64 (i : Int), .int .i64 0] 27
    rw [← hx5] at hV ⊢
    have lt_RW := RW.out.lt
    have lt_P := P.out.lt
    have gg_D := D.out.size
    have D := Lib.hid (below_on D.out hA)
    have RW := Lib.hid (RW.out.below hA RW.out.lt)
    have P := Lib.hid (P.out.below hA P.out.lt)
    obtain ⟨b_N, hbf⟩ : ∃ b, b = wr.heap.size := ⟨_, rfl⟩
    rw [← hbf] at hV ⊢
    have n_RW_N := Lib.hid (show b_RW ≠ b_N by omega)
    clear lt_RW
    have n_P_N := Lib.hid (show b_P ≠ b_N by omega)
    clear lt_P
    have g_N_D := Lib.hid (show x4.heap.size ≤ b_N by rw [hbf]; exact gg_D)
    clear gg_D
    have N := Lib.hid hV
    clear hV hA hx5 hbf
    clear RW0 RW1 P0 P1
    have c_RW := RW.out
    have RW0 := c_RW.c0
    have RW1 := c_RW.c1
    clear c_RW
    have c_P := P.out
    have P0 := c_P.c0
    have P1 := c_P.c1
    clear c_P
    clear RW0 RW1 P0 P1
    go_loopw [74] (fun i ws => ∃ o : Nat, o ≤ 3 ∧ i = .int .i64 o ∧ Hid (Below x5.heap.size x5 ws)) (fun i _ => 3 - (RowKit.intOf i).toNat)
    case atStart => exact ⟨0, by omega, rfl, Below.refl _ _⟩
    case round =>
      obtain ⟨o, ho3, rfl, E⟩ := hrel
      by_cases ho : o < 3
      rotate_left
      · obtain rfl : o = 3 := by omega
        have D := Lib.hid (below_on D.out E.out)
        go_wp2
        go_roundw
        case rel => exact ⟨k + 1, by have := HK.out; omega, by go_num, D⟩
        case measure => have := HK.out; simp [RowKit.intOf]; omega
      obtain ⟨px, py, hx0, hy0⟩ : ∃ px py : Int, wr.cell? ⟨b_N, o * 2, none⟩ = some (.int .i64 px) ∧ wr.cell? ⟨b_N, o * 2 + 1, none⟩ = some (.int .i64 py) := by
        have q := N.out.below E.out N.out.lt
        obtain rfl | rfl | rfl : o = 0 ∨ o = 1 ∨ o = 2 := by omega
        · exact ⟨l, c, q.at (k := 0) rfl, q.at (k := 1) rfl⟩
        · exact ⟨i, m, q.at (k := 2) rfl, q.at (k := 3) rfl⟩
        · exact ⟨i, 0, q.at (k := 4) rfl, q.at (k := 5) rfl⟩
      have D := Lib.hid (below_on D.out E.out)
      clear P RW
      go_upto_region 14 with fail
      obtain ⟨x6, hx6⟩ : ∃ x6, x6 = wr.alloc (.cells #[.int .i64 px, .int .i64 py] 27) := ⟨_, rfl⟩
      have hA : Below wr.heap.size wr x6 := by rw [hx6]; exact (Below.refl _ wr).alloc (Nat.le_refl _) _
      have hV := PosAt.new wr px py
      rw [← hx6] at hV ⊢
      have gg_D := D.out.size
      have gg_E := E.out.size
      have D := Lib.hid (below_on D.out hA)
      have E := Lib.hid (below_on E.out hA)
      obtain ⟨b_R, hbf⟩ : ∃ b, b = wr.heap.size := ⟨_, rfl⟩
      rw [← hbf] at hV ⊢
      have g_R_D := Lib.hid (show x4.heap.size ≤ b_R by rw [hbf]; exact gg_D)
      clear gg_D
      have g_R_E := Lib.hid (show x5.heap.size ≤ b_R by rw [hbf]; exact gg_E)
      clear gg_E
      have R := Lib.hid hV
      clear hV hA hx6 hbf
      have c_R := R.out
      have R0 := c_R.c0
      have R1 := c_R.c1
      clear c_R
      clear hx0 hy0
      have HO := Lib.hid ho
      clear ho
      rename (o : Int) < 3 => hoi
      clear hoi
      go_wp2
      obtain ⟨x7, hx7⟩ : ∃ x7, x7 = x6.alloc (.cells #[.int .i64 kn, .int .i64 (kn.tmod 9), .int .i64 1] 3) := ⟨_, rfl⟩
      have hA : Below x6.heap.size x6 x7 := by rw [hx7]; exact (Below.refl _ x6).alloc (Nat.le_refl _) _
      have hV := RowAt.new x6 #[.int .i64 kn, .int .i64 (kn.tmod 9), .int .i64 1] 3
      rw [← hx7] at hV ⊢
      have lt_R := R.out.lt
      have gg_D := D.out.size
      have gg_E := E.out.size
      have D := Lib.hid (below_on D.out hA)
      have E := Lib.hid (below_on E.out hA)
      have R := Lib.hid (R.out.below hA R.out.lt)
      obtain ⟨b_M, hbf⟩ : ∃ b, b = x6.heap.size := ⟨_, rfl⟩
      rw [← hbf] at hV ⊢
      have n_R_M := Lib.hid (show b_R ≠ b_M by omega)
      clear lt_R
      have g_M_D := Lib.hid (show x4.heap.size ≤ b_M by rw [hbf]; exact gg_D)
      clear gg_D
      have g_M_E := Lib.hid (show x5.heap.size ≤ b_M by rw [hbf]; exact gg_E)
      clear gg_E
      have M := Lib.hid hV
      clear hV hA hx7 hbf
      clear R0 R1
      have c_R := R.out
      have R0 := c_R.c0
      have R1 := c_R.c1
      clear c_R
      clear R0 R1
      go_loopw [83] (fun i wt => ∃ j : Nat, j ≤ 3 ∧ i = .int .i64 j ∧ Hid (Below x7.heap.size x7 wt)) (fun i _ => 3 - (RowKit.intOf i).toNat)
      case atStart => exact ⟨0, by omega, rfl, Below.refl _ _⟩
      case round =>
        obtain ⟨j, hj3, rfl, F⟩ := hrel
        by_cases hj : j < 3
        rotate_left
        · obtain rfl : j = 3 := by omega
          have E := Lib.hid (below_on E.out F.out)
          go_wp2
          go_roundw
          case rel => exact ⟨o + 1, by have := HO.out; omega, by go_num, E⟩
          case measure => have := HO.out; simp [RowKit.intOf]; omega
        obtain ⟨kk, hkk⟩ : ∃ kk : Int, wr.cell? ⟨b_M, j, none⟩ = some (.int .i64 kk) := by
          have q := M.out.below F.out M.out.lt
          obtain rfl | rfl | rfl : j = 0 ∨ j = 1 ∨ j = 2 := by omega
          · exact ⟨_, q.at (k := 0) rfl⟩
          · exact ⟨_, q.at (k := 1) rfl⟩
          · exact ⟨_, q.at (k := 2) rfl⟩
        have D := Lib.hid (below_on D.out F.out)
        have R := Lib.hid (R.out.below F.out R.out.lt)
        have c1 := fun W (hW : Below x4.heap.size x4 W) => search_any _ n c' ls px py t back kk W (SrcV.below HS4.out hW) hs (by omega) (by omega)
        have d1 := fun W (hW : Below x4.heap.size x4 W) => search5_any _ n c' ls px py t back kk W (SrcV.below HS4.out hW) hs (by omega) (by omega)
        obtain ⟨r1, hr⟩ : ∃ r, r = srR t ls px py kk back := ⟨_, rfl⟩
        rw [← hr] at c1 d1
        clear hr
        have c_R := R.out
        have R0 := c_R.c0
        have R1 := c_R.c1
        clear c_R
        go_wp2_with fail
        refine (c1 _ D.out).mono ?_
        rintro e v1 ⟨rfl, hb⟩
        clear R0 R1
        have D := Lib.hid (below_on D.out hb)
        have F := Lib.hid (below_on F.out hb)
        have R := Lib.hid (R.out.below hb R.out.lt)
        clear hb c1 hkk
        go_upto_region 18 with fail
        obtain ⟨y1, hy1⟩ : ∃ y1, y1 = v1.alloc (.cells #[.int .i64 r1.l, .int .i64 r1.c, .int .i64 r1.way, .bool r1.j, .int .i64 r1.want] 40) := ⟨_, rfl⟩
        have hA : Below v1.heap.size v1 y1 := by rw [hy1]; exact (Below.refl _ v1).alloc (Nat.le_refl _) _
        have hV := MvAt.new v1 r1.l r1.c r1.way r1.want r1.j
        rw [← hy1] at hV ⊢
        have lt_R := R.out.lt
        have gg_D := D.out.size
        have gg_F := F.out.size
        have D := Lib.hid (below_on D.out hA)
        have F := Lib.hid (below_on F.out hA)
        have R := Lib.hid (R.out.below hA R.out.lt)
        obtain ⟨b_V, hbf⟩ : ∃ b, b = v1.heap.size := ⟨_, rfl⟩
        rw [← hbf] at hV ⊢
        have n_R_V := Lib.hid (show b_R ≠ b_V by omega)
        clear lt_R
        have g_V_D := Lib.hid (show x4.heap.size ≤ b_V by rw [hbf]; exact gg_D)
        clear gg_D
        have g_V_F := Lib.hid (show x7.heap.size ≤ b_V by rw [hbf]; exact gg_F)
        clear gg_F
        have V := Lib.hid hV
        clear hV hA hy1 hbf
        have c_R := R.out
        have R0 := c_R.c0
        have R1 := c_R.c1
        clear c_R
        have c_V := V.out
        have V0 := c_V.c0
        have V1 := c_V.c1
        have V2 := c_V.c2
        have V3 := c_V.c3
        have V4 := c_V.c4
        have Vz := c_V.z
        clear c_V
        go_wp2_with fail
        refine (d1 _ D.out).mono ?_
        rintro e v2 ⟨rfl, hb⟩
        clear R0 R1 V0 V1 V2 V3 V4 Vz
        have D := Lib.hid (below_on D.out hb)
        have F := Lib.hid (below_on F.out hb)
        have R := Lib.hid (R.out.below hb R.out.lt)
        have V := Lib.hid (V.out.below hb V.out.lt)
        clear hb d1
        go_upto_region 19 with fail
        obtain ⟨y2, hy2⟩ : ∃ y2, y2 = v2.alloc (.cells #[.int .i64 r1.l, .int .i64 r1.c, .int .i64 r1.way, .bool r1.j, .int .i64 r1.want] 40) := ⟨_, rfl⟩
        have hA : Below v2.heap.size v2 y2 := by rw [hy2]; exact (Below.refl _ v2).alloc (Nat.le_refl _) _
        have hV := MvAt.new v2 r1.l r1.c r1.way r1.want r1.j
        rw [← hy2] at hV ⊢
        have lt_R := R.out.lt
        have lt_V := V.out.lt
        have gg_D := D.out.size
        have gg_F := F.out.size
        have D := Lib.hid (below_on D.out hA)
        have F := Lib.hid (below_on F.out hA)
        have R := Lib.hid (R.out.below hA R.out.lt)
        have V := Lib.hid (V.out.below hA V.out.lt)
        obtain ⟨b_U, hbf⟩ : ∃ b, b = v2.heap.size := ⟨_, rfl⟩
        rw [← hbf] at hV ⊢
        have n_R_U := Lib.hid (show b_R ≠ b_U by omega)
        clear lt_R
        have n_V_U := Lib.hid (show b_V ≠ b_U by omega)
        clear lt_V
        have g_U_D := Lib.hid (show x4.heap.size ≤ b_U by rw [hbf]; exact gg_D)
        clear gg_D
        have g_U_F := Lib.hid (show x7.heap.size ≤ b_U by rw [hbf]; exact gg_F)
        clear gg_F
        have U := Lib.hid hV
        clear hV hA hy2 hbf
        have c_R := R.out
        have R0 := c_R.c0
        have R1 := c_R.c1
        clear c_R
        have c_V := V.out
        have V0 := c_V.c0
        have V1 := c_V.c1
        have V2 := c_V.c2
        have V3 := c_V.c3
        have V4 := c_V.c4
        have Vz := c_V.z
        clear c_V
        have c_U := U.out
        have U0 := c_U.c0
        have U1 := c_U.c1
        have U2 := c_U.c2
        have U3 := c_U.c3
        have U4 := c_U.c4
        have Uz := c_U.z
        clear c_U
        go_wp2_with fail
        refine (same_same r1 _).mono ?_
        rintro e v3 ⟨rfl, hb⟩
        clear R0 R1 V0 V1 V2 V3 V4 Vz U0 U1 U2 U3 U4 Uz
        have D := Lib.hid (below_on D.out hb)
        have F := Lib.hid (below_on F.out hb)
        have R := Lib.hid (R.out.below hb R.out.lt)
        have V := Lib.hid (V.out.below hb V.out.lt)
        have U := Lib.hid (U.out.below hb U.out.lt)
        clear hb 
        have c_R := R.out
        have R0 := c_R.c0
        have R1 := c_R.c1
        clear c_R
        have c_V := V.out
        have V0 := c_V.c0
        have V1 := c_V.c1
        have V2 := c_V.c2
        have V3 := c_V.c3
        have V4 := c_V.c4
        have Vz := c_V.z
        clear c_V
        have c_U := U.out
        have U0 := c_U.c0
        have U1 := c_U.c1
        have U2 := c_U.c2
        have U3 := c_U.c3
        have U4 := c_U.c4
        have Uz := c_U.z
        clear c_U
        go_wp2
        go_roundw
        case rel => exact ⟨j + 1, by omega, by go_num, F⟩
        case measure => simp [RowKit.intOf]; omega
end Go.Proofs.Ythlneojhkhhmbaa.FSea
