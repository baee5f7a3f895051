/-
  Package para: the next paragraph, the one ahead.
-/
import Derived.Test.YtpdbfdhfonfbeaaGa
import Derived.Test.YtpdbfdhfonfbeaaTw
set_option linter.unusedVariables false
set_option linter.unusedSimpArgs false
set_option maxRecDepth 100000
namespace Go.Proofs.Ytpdbfdhfonfbeaa.Pa
open Go Go.RowKit Go.Proofs.Ytpdbfdhfonfbeaa.Vk Go.Proofs.Ytpdbfdhfonfbeaa.Str Go.Proofs.Ytpdbfdhfonfbeaa.Ln Go.Proofs.Ytpdbfdhfonfbeaa.Cl Go.Proofs.Ytpdbfdhfonfbeaa.Mv Go.Proofs.Ytpdbfdhfonfbeaa.Wd
attribute [local go_sem] Oper.semAt_some

theorem dn_lt {ls : List ByteArray} {past : Bool} {i : Nat} (h : i ≤ ls.length) (h0 : 0 < ls.length) : (dn ls past i).1 < ls.length := by
  rcases dn_is (past := past) h with h1 | ⟨k, h1, h2, h3, h4⟩
  · rw [h1]; show ls.length - 1 < ls.length; omega
  · rw [h3]; exact h2
theorem up_lt {ls : List ByteArray} {i : Nat} (h : i < ls.length) : (up ls i).1 < ls.length := by
  rcases up_is (ls := ls) i with h1 | ⟨k, h1, h2, h3⟩
  · rw [h1]; show 0 < ls.length; omega
  · rw [h2]; show k < ls.length; omega
theorem _root_.Go.Proofs.Ytpdbfdhfonfbeaa.Mv.Two.move {w W : World} {l c : Int} (h : Two w W l c) (x y : Int) : Two w ((W.setCell ⟨w.heap.size, 0, none⟩ (.int .i64 x)).setCell ⟨w.heap.size, 1, none⟩ (.int .i64 y)) x y :=
  ⟨(h.below.setCell (p := ⟨w.heap.size, 0, none⟩) (Nat.le_refl _) _).setCell (p := ⟨w.heap.size, 1, none⟩) (Nat.le_refl _) _, by simpa using h.size, So.set2 h.pos, (h.mv.other (by omega)).other (by omega)⟩
theorem bw_block {b b' o o' n c : Nat} (h : Value.slice (some ⟨b, o, none⟩) n c = Value.slice (some ⟨b', o', none⟩) n c) : b' = b ∧ o' = o := by
  injection h with h
  injection h with h
  injection h with h1 h2
  exact ⟨h1.symm, h2.symm⟩

set_option maxHeartbeats 4000000 in
theorem below_any (a : Option Addr) (n c' : Nat) (ls : List ByteArray) (l : Nat) (past : Bool) (w : World) (h : Ss w a n c' ls) (hs : ∀ s ∈ ls, s.size ≤ 140737488355328) (hl : l < n) :
    Calls Try.prog 28 #[.slice a n c', .int .i64 l, .bool past] w fun e w' => e = .returned (.agg #[.int .i64 (dn ls past (l + 1)).1, .int .i64 (dn ls past (l + 1)).2]) ∧ Below w.heap.size w w' := by
  have hlen := h.length
  have hn := h.le63
  obtain ⟨X, hX⟩ : ∃ X, X = w.alloc (.cells #[.int .i64 0, .int .i64 0] 24) := ⟨_, rfl⟩
  have hb0 : Below w.heap.size w X := by rw [hX]; exact (Below.refl _ w).alloc (Nat.le_refl _) _
  have hp : PosAt X w.heap.size 0 0 := by rw [hX]; exact PosAt.new w 0 0
  obtain ⟨B, hB⟩ : ∃ B, B = w.heap.size := ⟨_, rfl⟩
  rw [← hB] at hp
  have hBw : w.heap.size ≤ B := by omega
  have HX := Lib.hid (And.intro hX hB)
  have HP := Lib.hid hp
  have HB := Lib.hid hb0
  have HS := Lib.hid h
  obtain ⟨L, hL⟩ : ∃ L, L = l + 1 := ⟨_, rfl⟩
  rw [← hL]
  have hw : IntKind.i64.wrap ((l : Int) + 1) = (L : Int) := by rw [IntKind.wrap_i64]; omega
  have hLn : L ≤ n := by omega
  have hL0 : 0 < L := by omega
  have hla := last_any a n c' ls past X (SrcV.below h hb0) hs (by omega)
  clear hX hB hp hb0 h hL
  go_enter Try.func28, Try.ntmps28
  go_upto_region 1 with fail
  rw [← HX.out.1, ← HX.out.2]
  clear HX
  go_wp2
  clear hw
  go_loop [7] (fun i => ∃ k : Nat, k ≤ n ∧ 0 < k ∧ i = .int .i64 k ∧ Hid (dn ls past L = dn ls past k)) (fun i => n - (RowKit.intOf i).toNat)
  case atStart => exact ⟨L, hLn, hL0, rfl, rfl⟩
  case round =>
    obtain ⟨k, hkn', hk0, rfl, hd⟩ := hrel
    by_cases hkn : k < n
    · clear hla
      obtain ⟨m, hkm⟩ : ∃ m, m = k - 1 := ⟨_, rfl⟩
      have hwm : IntKind.i64.wrap ((k : Int) - 1) = (m : Int) := by rw [IntKind.wrap_i64]; omega
      have hmn : m < n := by omega
      have HKM := Lib.hid hkm
      clear hkm
      obtain ⟨b, o, rfl, hcx, hnc, _⟩ := HS.out.read k (by omega)
      obtain ⟨b', o', he', hcy, _, _⟩ := HS.out.read m (by omega)
      obtain ⟨rfl, rfl⟩ : b' = b ∧ o' = o := by
        injection he' with he'
        injection he' with h1 h2
        exact ⟨h1.symm, h2.symm⟩
      rw [← lineAt_get (ls := ls) (k := k) (by omega)] at hcx
      rw [← lineAt_get (ls := ls) (k := m) (by omega)] at hcy
      have c3 := cell_later HB.out hcx
      have c4 := cell_later HB.out hcy
      clear hcx hcy he' 
      by_cases hx : (lineAt ls k).size = 0
      · have ex := empty_of_zero hx
        by_cases hy : (lineAt ls m).size = 0
        · have ey := empty_of_zero hy
          have hp : pab ls k = false := by unfold pab; rw [← HKM.out]; rw [decide_eq_true hx, decide_eq_false (fun hh => hh hy)]; rfl
          clear hx hy
          have HV := Lib.hid (hd.out.trans (dn_no (past := past) (by omega) hp))
          clear hp
          go_wp2
          go_round
          case rel => exact ⟨k + 1, by omega, by omega, by go_num, HV⟩
          case measure => simp [RowKit.intOf] <;> omega
        · have ey := empty_of_pos (x := lineAt ls m) (by omega)
          have hp : pab ls k = true := by unfold pab; rw [← HKM.out]; rw [decide_eq_true hx, decide_eq_true hy]; rfl
          clear hx hy
          have HV := Lib.hid (hd.out.trans (dn_yes (past := past) (by omega) hp))
          clear hp
          have p0 := HP.out.c0
          have p1 := HP.out.c1
          have z := fun k => frozen_of_row X B k _ _ HP.out
          go_wp2
          exact bodyPost_ret (results_cell_row (P := Try.prog) rfl _ _ B _ #[.int .i64 (k : Int), .int .i64 0] _ _ rfl (So.set2 HP.out) Try.underlying24 rfl (by kernel_rfl)) rfl ⟨by rw [HV.out]; rfl, (HB.out.setCell (p := ⟨B, 0, none⟩) hBw _).setCell (p := ⟨B, 1, none⟩) hBw _⟩
      · have ex := empty_of_pos (x := lineAt ls k) (by omega)
        have hp : pab ls k = false := by unfold pab; rw [← HKM.out]; rw [decide_eq_false hx]; rfl
        clear hx
        have HV := Lib.hid (hd.out.trans (dn_no (past := past) (by omega) hp))
        clear hp
        go_wp2
        go_round
        case rel => exact ⟨k + 1, by omega, by omega, by go_num, HV⟩
        case measure => simp [RowKit.intOf] <;> omega
    · obtain rfl : k = n := by omega
      have HV := Lib.hid (hd.out.trans (dn_end (past := past) (by omega)))
      clear hd
      go_wp2_with fail
      refine hla.mono ?_
      rintro e w1 ⟨rfl, hb1⟩
      have hp1 := HP.out.below hb1 HP.out.lt
      have p0 := hp1.c0
      have p1 := hp1.c1
      have z := fun k => frozen_of_row w1 B k _ _ hp1
      have HP1 := Lib.hid (And.intro hp1 (below_on HB.out hb1))
      clear hla hb1 hp1
      go_wp2
      exact bodyPost_ret (results_cell_row (P := Try.prog) rfl _ _ B _ #[.int .i64 ((lastP ls past).1 : Nat), .int .i64 ((lastP ls past).2 : Nat)] _ _ rfl (So.set2 HP1.out.1) Try.underlying24 rfl (by kernel_rfl)) rfl ⟨by rw [HV.out], (HP1.out.2.setCell (p := ⟨B, 0, none⟩) hBw _).setCell (p := ⟨B, 1, none⟩) hBw _⟩

set_option maxHeartbeats 4000000 in
theorem above_any (a : Option Addr) (n c' : Nat) (ls : List ByteArray) (l : Nat) (w : World) (h : Ss w a n c' ls) (hs : ∀ s ∈ ls, s.size ≤ 140737488355328) (hl : l < n) :
    Calls Try.prog 35 #[.slice a n c', .int .i64 l] w fun e w' => e = .returned (.agg #[.int .i64 (up ls l).1, .int .i64 (up ls l).2]) ∧ Below w.heap.size w w' := by
  have hlen := h.length
  have hn := h.le63
  obtain ⟨X, hX⟩ : ∃ X, X = w.alloc (.cells #[.int .i64 0, .int .i64 0] 24) := ⟨_, rfl⟩
  have hb0 : Below w.heap.size w X := by rw [hX]; exact (Below.refl _ w).alloc (Nat.le_refl _) _
  have hp : PosAt X w.heap.size 0 0 := by rw [hX]; exact PosAt.new w 0 0
  obtain ⟨B, hB⟩ : ∃ B, B = w.heap.size := ⟨_, rfl⟩
  rw [← hB] at hp
  have hBw : w.heap.size ≤ B := by omega
  have HX := Lib.hid (And.intro hX hB)
  have HP := Lib.hid hp
  have HB := Lib.hid hb0
  have HS := Lib.hid h
  have hw : IntKind.i64.wrap ((l : Int) - 1) = (l : Int) - 1 := by rw [IntKind.wrap_i64]; omega
  clear hX hB hp hb0 h
  go_enter Try.func35, Try.ntmps35
  go_upto_region 1 with fail
  rw [← HX.out.1, ← HX.out.2]
  clear HX
  go_wp2
  clear hw
  go_loop [5] (fun i => ∃ k : Nat, k ≤ l ∧ i = .int .i64 ((k : Int) - 1) ∧ Hid (up ls l = up ls k)) (fun i => (RowKit.intOf i + 1).toNat)
  case atStart => exact ⟨l, Nat.le_refl _, rfl, rfl⟩
  case round =>
    obtain ⟨j, hjl, rfl, hd⟩ := hrel
    by_cases hj0 : 0 < j
    · obtain ⟨k, rfl⟩ : ∃ k, j = k + 1 := ⟨j - 1, by omega⟩
      rw [show ((k + 1 : Nat) : Int) - 1 = (k : Int) by omega]
      obtain ⟨m, hkm⟩ : ∃ m, m = k + 1 := ⟨_, rfl⟩
      have hwm : IntKind.i64.wrap ((k : Int) + 1) = (m : Int) := by rw [IntKind.wrap_i64]; omega
      have hwk : IntKind.i64.wrap ((k : Int) - 1) = (k : Int) - 1 := by rw [IntKind.wrap_i64]; omega
      have dk : decide ((0 : Int) ≤ (k : Int)) = true := decide_eq_true (by omega)
      have hmn : m < n := by omega
      have hkn : k < n := by omega
      have hkl : k ≤ l := by omega
      have HKM := Lib.hid hkm
      clear hj0 hjl hkm
      obtain ⟨b, o, rfl, hcx, hnc, _⟩ := HS.out.read k (by omega)
      obtain ⟨b', o', he', hcy, _, _⟩ := HS.out.read m (by omega)
      obtain ⟨rfl, rfl⟩ : b' = b ∧ o' = o := by
        injection he' with he'
        injection he' with h1 h2
        exact ⟨h1.symm, h2.symm⟩
      rw [← lineAt_get (ls := ls) (k := k) (by omega)] at hcx
      rw [← lineAt_get (ls := ls) (k := m) (by omega)] at hcy
      have c3 := cell_later HB.out hcx
      have c4 := cell_later HB.out hcy
      clear hcx hcy he' 
      by_cases hx : (lineAt ls k).size = 0
      · have ex := empty_of_zero hx
        by_cases hy : (lineAt ls m).size = 0
        · have ey := empty_of_zero hy
          have hp : paa ls k = false := by unfold paa; rw [← HKM.out]; rw [decide_eq_true hx, decide_eq_false (fun hh => hh hy)]; rfl
          clear hx hy
          have HV := Lib.hid (hd.out.trans (up_no hp))
          clear hp hd
          go_wp2
          go_round
          case rel => exact ⟨k, by omega, rfl, HV⟩
          case measure => simp [RowKit.intOf] <;> omega
        · have ey := empty_of_pos (x := lineAt ls m) (by omega)
          have hp : paa ls k = true := by unfold paa; rw [← HKM.out]; rw [decide_eq_true hx, decide_eq_true hy]; rfl
          clear hx hy
          have HV := Lib.hid (hd.out.trans (up_yes hp))
          clear hp hd
          have p0 := HP.out.c0
          have p1 := HP.out.c1
          have z := fun k => frozen_of_row X B k _ _ HP.out
          go_wp2
          exact bodyPost_ret (results_cell_row (P := Try.prog) rfl _ _ B _ #[.int .i64 (k : Int), .int .i64 0] _ _ rfl (So.set2 HP.out) Try.underlying24 rfl (by kernel_rfl)) rfl ⟨by rw [HV.out]; rfl, (HB.out.setCell (p := ⟨B, 0, none⟩) hBw _).setCell (p := ⟨B, 1, none⟩) hBw _⟩
      · have ex := empty_of_pos (x := lineAt ls k) (by omega)
        have hp : paa ls k = false := by unfold paa; rw [← HKM.out]; rw [decide_eq_false hx]; rfl
        clear hx
        have HV := Lib.hid (hd.out.trans (up_no hp))
        clear hp hd
        go_wp2
        go_round
        case rel => exact ⟨k, by omega, rfl, HV⟩
        case measure => simp [RowKit.intOf] <;> omega
    · obtain rfl : j = 0 := by omega
      have HV := Lib.hid (hd.out.trans (show up ls 0 = (0, 0) from rfl))
      clear hd
      have p0 := HP.out.c0
      have p1 := HP.out.c1
      have z := fun k => frozen_of_row X B k _ _ HP.out
      go_wp2
      exact bodyPost_ret (results_cell_row (P := Try.prog) rfl _ _ B _ #[.int .i64 0, .int .i64 0] _ _ rfl (So.set2 HP.out) Try.underlying24 rfl (by kernel_rfl)) rfl ⟨by rw [HV.out]; rfl, (HB.out.setCell (p := ⟨B, 0, none⟩) hBw _).setCell (p := ⟨B, 1, none⟩) hBw _⟩


end Go.Proofs.Ytpdbfdhfonfbeaa.Pa
