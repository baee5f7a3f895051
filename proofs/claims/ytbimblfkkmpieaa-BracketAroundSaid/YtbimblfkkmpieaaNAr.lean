/-
  The law BracketAround, walked.
-/
import Derived.Test.YtbimblfkkmpieaaNKn
import Derived.Test.YtbimblfkkmpieaaNj
import Derived.Laws.BytesArg
set_option linter.unusedVariables false
set_option linter.unusedSimpArgs false
set_option maxRecDepth 100000
namespace Go.Proofs.Ytbimblfkkmpieaa.NAr
open Go Go.RowKit Go.Proofs.Ytbimblfkkmpieaa.Vk Go.Proofs.Ytbimblfkkmpieaa.Str Go.Proofs.Ytbimblfkkmpieaa.Ln Go.Proofs.Ytbimblfkkmpieaa.Cl Go.Proofs.Ytbimblfkkmpieaa.Mv Go.Proofs.Ytbimblfkkmpieaa.Pr Go.Proofs.Ytbimblfkkmpieaa.Wd Go.Proofs.Ytbimblfkkmpieaa.Bo
open Go.Proofs.Ytbimblfkkmpieaa.Wo (RgAt putR putR_below rgv eq_rng ne_rng)
attribute [local go_sem] Oper.semAt_some
set_option maxHeartbeats 8000000

theorem tx_small {ls : List ByteArray} {B : Nat} (h : ∀ s ∈ ls, s.size ≤ B) (fl fc tl tc : Nat) : ∀ s ∈ tx ls fl fc tl tc, s.size ≤ B := by
  intro s hs
  obtain ⟨x, hx, rfl⟩ := List.mem_map.1 hs
  unfold So.enr at hx
  obtain ⟨q, _, rfl⟩ := List.mem_map.1 hx
  have h1 : (lineAt ls (fl + q)).size ≤ B := by
    by_cases hq : fl + q < ls.length
    · rw [lineAt_get hq]; exact h _ (List.getElem_mem hq)
    · unfold lineAt
      rw [List.getElem?_eq_none (by omega)]
      exact Nat.zero_le _
  unfold prt
  dsimp only
  rw [← size_str, ext_list, List.length_drop, List.length_take, size_str]
  omega
/-- A byte alone as a text. -/
theorem conv_one {W : World} {g cc : Nat} (h : W.cell? ⟨g, 0, none⟩ = some (.int .u8 (cc : Int))) : (convert 30 9 (.slice (some ⟨g, 0, none⟩) 1 1)).run Try.prog W = .ok (.string (strOfNums [(cc : Int)])) W :=
  run_convert_bytes_arg W 30 5 Try.underlying30 Try.underlying5 g 0 1 1 [(cc : Int)] rfl (fun i hi => by rw [show i = 0 from Nat.lt_one_iff.1 hi]; exact h) _ Try.underlying9
theorem one_list (x : UInt8) : (strOfNums [((x.toNat : Nat) : Int)]).data.toList = [x] := by
  rw [strOfNums_data]
  simp

theorem walk (a : Option Addr) (n c' : Nat) (ls : List ByteArray) (x y q r : Int) (w : World) (h : Ss w a n c' ls) (hs : ∀ s ∈ ls, s.size ≤ 140737488355328) (hx : (Lit.int .u16 x).wf = true) (hy : (Lit.int .u16 y).wf = true) (hq0 : (Lit.int .u8 q).wf = true) (hr0 : (Lit.int .u8 r).wf = true) :
    Calls Try.prog 4 #[.slice a n c', .int .u16 x, .int .u16 y, .int .u8 q, .int .u8 r] w fun e w' => e = .returned (.bool true) ∧ Below w.heap.size w w' := by
  have hk := known_any w
  have x2 : 0 ≤ x ∧ x ≤ 65535 := by simpa [Lit.wf, IntKind.min, IntKind.max, IntKind.signed, IntKind.bits] using hx
  have y2 : 0 ≤ y ∧ y ≤ 65535 := by simpa [Lit.wf, IntKind.min, IntKind.max, IntKind.signed, IntKind.bits] using hy
  have q2 : 0 ≤ q ∧ q ≤ 255 := by simpa [Lit.wf, IntKind.min, IntKind.max, IntKind.signed, IntKind.bits] using hq0
  have r2 : 0 ≤ r ∧ r ≤ 255 := by simpa [Lit.wf, IntKind.min, IntKind.max, IntKind.signed, IntKind.bits] using hr0
  obtain ⟨G, hG, hG3⟩ : ∃ G : Nat, q % 3 = (G : Int) ∧ G < 3 := ⟨(q % 3).toNat, by omega, by omega⟩
  have hGt : q.tmod 3 = (G : Int) := by rw [Int.tmod_eq_emod_of_nonneg q2.1]; exact hG
  have hwG : IntKind.u8.wrap (G : Int) = (G : Int) := by obtain rfl | rfl | rfl : G = 0 ∨ G = 1 ∨ G = 2 := by omega
                                                         all_goals rfl
  have hG3i : (G : Int) < 3 := by omega
  obtain ⟨H, hH, hH3⟩ : ∃ H : Nat, r % 3 = (H : Int) ∧ H < 3 := ⟨(r % 3).toNat, by omega, by omega⟩
  have hHt : r.tmod 3 = (H : Int) := by rw [Int.tmod_eq_emod_of_nonneg r2.1]; exact hH
  have hwH : IntKind.u8.wrap (H : Int) = (H : Int) := by obtain rfl | rfl | rfl : H = 0 ∨ H = 1 ∨ H = 2 := by omega
                                                         all_goals rfl
  have hwH2 : IntKind.i64.wrap (H : Int) = (H : Int) := by rw [IntKind.wrap_i64]; omega
  obtain ⟨C, hC1, hC2⟩ : ∃ C, H + 1 ≤ C ∧ C ≤ H + 1 := ⟨H + 1, by omega, by omega⟩
  have hwC : IntKind.i64.wrap ((H : Int) + 1) = (C : Int) := by rw [IntKind.wrap_i64]; omega
  go_enter Try.func4, Try.ntmps4
  go_wp2_with fail
  refine hk.mono ?_
  rintro e w1 ⟨rfl, hb1⟩
  have HB1 := Lib.hid hb1
  have hs1 := SrcV.below h hb1
  have htx := text_any a n c' ls w1 hs1 hs
  clear hk hb1 h
  go_wp2_with fail
  refine htx.mono ?_
  rintro e w' ⟨qq, rfl, rfl, hq⟩
  clear htx
  cases qq
  · clear hq
    go_wp2
    go_ret
    exact ⟨rfl, HB1.out⟩
  obtain ⟨hn0, hn40, hz, _⟩ := hq rfl
  have hsm : ∀ s ∈ ls, s.size ≤ 1000000 := fun s hh => by have := tz_mem ls s hh; omega
  have hn6 : n ≤ 1000000 := by omega
  have hz9 : tz ls ≤ 900000 := by omega
  clear hq
  have hse := seat_eq a n c' ls x y w1 hs1 hn0 hs x2 y2
  obtain ⟨si, hsi⟩ : ∃ i, i = seatL n x := ⟨_, rfl⟩
  obtain ⟨sm, hsm'⟩ : ∃ m, m = seatC ls n x y := ⟨_, rfl⟩
  rw [← hsi, ← hsm'] at hse
  have HS := Lib.hid hs1
  have D := Lib.hid (Below.refl w1.heap.size w1)
  clear hsi hsm' hs1 hz hn40
  go_wp2_with fail
  refine (hse).mono ?_
  rintro e w2 ⟨rfl, hb⟩
  have D := Lib.hid (below_on D.out hb)
  clear hb hse
  go_upto_region 6 with fail
  obtain ⟨x2, hx2⟩ : ∃ x2, x2 = w2.alloc (.cells #[.int .i64 si, .int .i64 sm] 24) := ⟨_, rfl⟩
  have hA : Below w2.heap.size w2 x2 := by rw [hx2]; exact (Below.refl _ w2).alloc (Nat.le_refl _) _
  have hV := PosAt.new w2 si sm
  rw [← hx2] at hV ⊢
  have gg_D := D.out.size
  have D := Lib.hid (below_on D.out hA)
  obtain ⟨b_P, hbf⟩ : ∃ b, b = w2.heap.size := ⟨_, rfl⟩
  rw [← hbf] at hV ⊢
  have g_P_D := Lib.hid (show w1.heap.size ≤ b_P by rw [hbf]; exact gg_D)
  clear gg_D
  have P := Lib.hid hV
  clear hV hA hx2 hbf
  have c_P := P.out
  have P0 := c_P.c0
  have P1 := c_P.c1
  clear c_P
  clear P0 P1
  go_upto_region 8 with fail
  generalize hcc : ((({ data := #[40, 91, 123] } : ByteArray)[G]'hG3).toNat) = cc
  generalize hdd : ((({ data := #[41, 93, 125] } : ByteArray)[G]'hG3).toNat) = dd
  have hcd : kO cc = cc ∧ kS cc = dd := by
    obtain rfl | rfl | rfl : G = 0 ∨ G = 1 ∨ G = 2 := by omega
    all_goals
      subst hcc hdd
      exact ⟨rfl, rfl⟩
  have HCD := Lib.hid hcd
  clear hcc hdd hcd hG hGt hwG hG3i
  have hC9 : (C : Int) ≤ 9223372036854775807 := by omega
  have c1 := fun W (hW : Below w1.heap.size w1 W) => inner_any a n c' ls si sm cc C W (SrcV.below HS.out hW) hs hn6 hz9 hC9
  have c2 := fun W (hW : Below w1.heap.size w1 W) => around_any a n c' ls si sm cc C W (SrcV.below HS.out hW) hs hn6 hz9 hC9
  have HC := Lib.hid (And.intro hC1 hC2)
  clear hC1 hC2 hC9
  cases hp : brk ls si sm cc C with
    | none =>
      rw [hp] at c1 c2
      simp only [Bo.brV] at c1 c2
      clear hp
      have c_P := P.out
      have P0 := c_P.c0
      have P1 := c_P.c1
      clear c_P
      go_wp2_with fail
      refine (c1 _ D.out).mono ?_
      rintro e w3 ⟨rfl, hb⟩
      clear P0 P1
      have D := Lib.hid (below_on D.out hb)
      have P := Lib.hid (P.out.below hb P.out.lt)
      clear hb c1
      go_upto_region 9 with fail
      obtain ⟨x3, hx3⟩ : ∃ x3, x3 = w3.alloc (.cells #[.int .i64 0, .int .i64 0, .int .i64 0, .int .i64 0, .int .i64 0] 33) := ⟨_, rfl⟩
      have hA : Below w3.heap.size w3 x3 := by rw [hx3]; exact (Below.refl _ w3).alloc (Nat.le_refl _) _
      have hV := RgAt.new w3 0 0 0 0 0
      rw [← hx3] at hV ⊢
      have lt_P := P.out.lt
      have gg_D := D.out.size
      have D := Lib.hid (below_on D.out hA)
      have P := Lib.hid (P.out.below hA P.out.lt)
      obtain ⟨b_V, hbf⟩ : ∃ b, b = w3.heap.size := ⟨_, rfl⟩
      rw [← hbf] at hV ⊢
      have n_P_V := Lib.hid (show b_P ≠ b_V by omega)
      clear lt_P
      have g_V_D := Lib.hid (show w1.heap.size ≤ b_V by rw [hbf]; exact gg_D)
      clear gg_D
      have V := Lib.hid hV
      clear hV hA hx3 hbf
      have c_P := P.out
      have P0 := c_P.c0
      have P1 := c_P.c1
      clear c_P
      have c_V := V.out
      have V0 := c_V.c0
      have V1 := c_V.c1
      have V2 := c_V.c2
      have V3 := c_V.c3
      have V4 := c_V.c4
      clear c_V
      go_wp2_with fail
      refine (c2 _ D.out).mono ?_
      rintro e w4 ⟨rfl, hb⟩
      clear P0 P1 V0 V1 V2 V3 V4
      have D := Lib.hid (below_on D.out hb)
      have P := Lib.hid (P.out.below hb P.out.lt)
      have V := Lib.hid (V.out.below hb V.out.lt)
      clear hb c2
      go_upto_region 10 with fail
      obtain ⟨x4, hx4⟩ : ∃ x4, x4 = w4.alloc (.cells #[.int .i64 0, .int .i64 0, .int .i64 0, .int .i64 0, .int .i64 0] 33) := ⟨_, rfl⟩
      have hA : Below w4.heap.size w4 x4 := by rw [hx4]; exact (Below.refl _ w4).alloc (Nat.le_refl _) _
      have hV := RgAt.new w4 0 0 0 0 0
      rw [← hx4] at hV ⊢
      have lt_P := P.out.lt
      have lt_V := V.out.lt
      have gg_D := D.out.size
      have D := Lib.hid (below_on D.out hA)
      have P := Lib.hid (P.out.below hA P.out.lt)
      have V := Lib.hid (V.out.below hA V.out.lt)
      obtain ⟨b_U, hbf⟩ : ∃ b, b = w4.heap.size := ⟨_, rfl⟩
      rw [← hbf] at hV ⊢
      have n_P_U := Lib.hid (show b_P ≠ b_U by omega)
      clear lt_P
      have n_V_U := Lib.hid (show b_V ≠ b_U by omega)
      clear lt_V
      have g_U_D := Lib.hid (show w1.heap.size ≤ b_U by rw [hbf]; exact gg_D)
      clear gg_D
      have U := Lib.hid hV
      clear hV hA hx4 hbf
      have c_P := P.out
      have P0 := c_P.c0
      have P1 := c_P.c1
      clear c_P
      have c_V := V.out
      have V0 := c_V.c0
      have V1 := c_V.c1
      have V2 := c_V.c2
      have V3 := c_V.c3
      have V4 := c_V.c4
      clear c_V
      have c_U := U.out
      have U0 := c_U.c0
      have U1 := c_U.c1
      have U2 := c_U.c2
      have U3 := c_U.c3
      have U4 := c_U.c4
      clear c_U
      go_wp2
      go_ret
      exact ⟨rfl, below_on HB1.out D.out⟩
    | some v =>
      rw [hp] at c1 c2
      have hat := brk_at hp
      obtain ⟨⟨i, k⟩, j, m⟩ := v
      obtain ⟨k1, hk1⟩ : ∃ k1, k1 = k + 1 := ⟨_, rfl⟩
      obtain ⟨m1, hm1⟩ : ∃ m1, m1 = m + 1 := ⟨_, rfl⟩
      have hv1 : Bo.brV false (some ((i, k), j, m)) = .tuple #[rgv 0 i k1 j m, .bool true] := by rw [hk1]; rfl
      have hv2 : Bo.brV true (some ((i, k), j, m)) = .tuple #[rgv 0 i k j m1, .bool true] := by rw [hm1]; rfl
      rw [hv1] at c1
      rw [hv2] at c2
      have hi := hat.inner
      have ho := hat.outer
      obtain ⟨Z, hZ1, hZ2⟩ := around_bytes hat
      rw [← hk1] at hi hZ1
      rw [← hm1] at ho hZ2
      have hby : ((lineAt ls i)[k]'hat.k1).toNat = cc ∧ ((lineAt ls j)[m]'hat.k2).toNat = dd := ⟨by rw [bt_at, hat.b1]; exact HCD.out.1, by rw [bt_at, hat.b2]; exact HCD.out.2⟩
      obtain ⟨oo, hoo⟩ : ∃ oo, oo = (lineAt ls i)[k]'hat.k1 := ⟨_, rfl⟩
      obtain ⟨cl, hcl⟩ : ∃ cl, cl = (lineAt ls j)[m]'hat.k2 := ⟨_, rfl⟩
      rw [← hoo] at hby hZ2
      rw [← hcl] at hby hZ2
      obtain ⟨LI, hLI⟩ : ∃ LI, LI = tx ls i k1 j m := ⟨_, rfl⟩
      obtain ⟨LO, hLO⟩ : ∃ LO, LO = tx ls i k j m1 := ⟨_, rfl⟩
      obtain ⟨K, hK⟩ : ∃ K, K = j + 1 - i := ⟨_, rfl⟩
      have hlI : LI.length = K := by rw [hLI, tx_length, hK]
      have hlO : LO.length = K := by rw [hLO, tx_length, hK]
      have hmI : ∀ s ∈ LI, s.size ≤ 1000000 := by rw [hLI]; exact tx_small hsm _ _ _ _
      have hmO : ∀ s ∈ LO, s.size ≤ 1000000 := by rw [hLO]; exact tx_small hsm _ _ _ _
      have hKn : K ≤ 1000000 := by have := hat.l2; have := Ss.length HS.out; simp only at *; omega
      rw [← hLI] at hZ1
      rw [← hLO] at hZ2
      have t1 := fun W (hW : Below w1.heap.size w1 W) => text5_yes a n c' ls i k1 j m W (SrcV.below HS.out hW) hs hn6 hi
      have t2 := fun W (hW : Below w1.heap.size w1 W) => text5_yes a n c' ls i k j m1 W (SrcV.below HS.out hW) hs hn6 ho
      rw [← hLI] at t1
      rw [← hLO] at t2
      have HZ := Lib.hid (And.intro hZ1 hZ2)
      have HBY := Lib.hid hby
      clear hp hat hk1 hm1 hv1 hv2 hi ho hZ1 hZ2 hby hoo hcl hLI hLO hK hsm
      have c_P := P.out
      have P0 := c_P.c0
      have P1 := c_P.c1
      clear c_P
      go_wp2_with fail
      refine (c1 _ D.out).mono ?_
      rintro e w3 ⟨rfl, hb⟩
      clear P0 P1
      have D := Lib.hid (below_on D.out hb)
      have P := Lib.hid (P.out.below hb P.out.lt)
      clear hb c1
      go_upto_region 9 with fail
      obtain ⟨x3, hx3⟩ : ∃ x3, x3 = w3.alloc (.cells #[.int .i64 0, .int .i64 i, .int .i64 k1, .int .i64 j, .int .i64 m] 33) := ⟨_, rfl⟩
      have hA : Below w3.heap.size w3 x3 := by rw [hx3]; exact (Below.refl _ w3).alloc (Nat.le_refl _) _
      have hV := RgAt.new w3 0 i k1 j m
      rw [← hx3] at hV ⊢
      have lt_P := P.out.lt
      have gg_D := D.out.size
      have D := Lib.hid (below_on D.out hA)
      have P := Lib.hid (P.out.below hA P.out.lt)
      obtain ⟨b_V, hbf⟩ : ∃ b, b = w3.heap.size := ⟨_, rfl⟩
      rw [← hbf] at hV ⊢
      have n_P_V := Lib.hid (show b_P ≠ b_V by omega)
      clear lt_P
      have g_V_D := Lib.hid (show w1.heap.size ≤ b_V by rw [hbf]; exact gg_D)
      clear gg_D
      have V := Lib.hid hV
      clear hV hA hx3 hbf
      have c_P := P.out
      have P0 := c_P.c0
      have P1 := c_P.c1
      clear c_P
      have c_V := V.out
      have V0 := c_V.c0
      have V1 := c_V.c1
      have V2 := c_V.c2
      have V3 := c_V.c3
      have V4 := c_V.c4
      clear c_V
      go_wp2_with fail
      refine (c2 _ D.out).mono ?_
      rintro e w4 ⟨rfl, hb⟩
      clear P0 P1 V0 V1 V2 V3 V4
      have D := Lib.hid (below_on D.out hb)
      have P := Lib.hid (P.out.below hb P.out.lt)
      have V := Lib.hid (V.out.below hb V.out.lt)
      clear hb c2
      go_upto_region 10 with fail
      obtain ⟨x4, hx4⟩ : ∃ x4, x4 = w4.alloc (.cells #[.int .i64 0, .int .i64 i, .int .i64 k, .int .i64 j, .int .i64 m1] 33) := ⟨_, rfl⟩
      have hA : Below w4.heap.size w4 x4 := by rw [hx4]; exact (Below.refl _ w4).alloc (Nat.le_refl _) _
      have hV := RgAt.new w4 0 i k j m1
      rw [← hx4] at hV ⊢
      have lt_P := P.out.lt
      have lt_V := V.out.lt
      have gg_D := D.out.size
      have D := Lib.hid (below_on D.out hA)
      have P := Lib.hid (P.out.below hA P.out.lt)
      have V := Lib.hid (V.out.below hA V.out.lt)
      obtain ⟨b_U, hbf⟩ : ∃ b, b = w4.heap.size := ⟨_, rfl⟩
      rw [← hbf] at hV ⊢
      have n_P_U := Lib.hid (show b_P ≠ b_U by omega)
      clear lt_P
      have n_V_U := Lib.hid (show b_V ≠ b_U by omega)
      clear lt_V
      have g_U_D := Lib.hid (show w1.heap.size ≤ b_U by rw [hbf]; exact gg_D)
      clear gg_D
      have U := Lib.hid hV
      clear hV hA hx4 hbf
      have c_P := P.out
      have P0 := c_P.c0
      have P1 := c_P.c1
      clear c_P
      have c_V := V.out
      have V0 := c_V.c0
      have V1 := c_V.c1
      have V2 := c_V.c2
      have V3 := c_V.c3
      have V4 := c_V.c4
      clear c_V
      have c_U := U.out
      have U0 := c_U.c0
      have U1 := c_U.c1
      have U2 := c_U.c2
      have U3 := c_U.c3
      have U4 := c_U.c4
      clear c_U
      go_upto_region 12 with fail
      have F_V0 := fun (C : World → Prop) (hC : Grows x4 C) (y : In C) => hC.cell V0 y
      have F_V1 := fun (C : World → Prop) (hC : Grows x4 C) (y : In C) => hC.cell V1 y
      have F_V2 := fun (C : World → Prop) (hC : Grows x4 C) (y : In C) => hC.cell V2 y
      have F_V3 := fun (C : World → Prop) (hC : Grows x4 C) (y : In C) => hC.cell V3 y
      have F_V4 := fun (C : World → Prop) (hC : Grows x4 C) (y : In C) => hC.cell V4 y
      have F_U0 := fun (C : World → Prop) (hC : Grows x4 C) (y : In C) => hC.cell U0 y
      have F_U1 := fun (C : World → Prop) (hC : Grows x4 C) (y : In C) => hC.cell U1 y
      have F_U2 := fun (C : World → Prop) (hC : Grows x4 C) (y : In C) => hC.cell U2 y
      have F_U3 := fun (C : World → Prop) (hC : Grows x4 C) (y : In C) => hC.cell U3 y
      have F_U4 := fun (C : World → Prop) (hC : Grows x4 C) (y : In C) => hC.cell U4 y
      clear P0 P1 V0 V1 V2 V3 V4 U0 U1 U2 U3 U4
      refine wp_region_seg [0, 1, 3, 4] [(2, 1), (5, 1), (6, 2), (7, 2)] (by kernel_rfl) (by kernel_rfl) 116 rfl (by kernel_rfl) ?_
      simp only [List.map_cons, List.map_nil, opOf_succ, opOf_zero]
      apply Exists.intro
      refine ⟨fun C hC => ?_, ?_⟩
      · haveI hI := hC.one
        have f_V0 := F_V0 C hC
        have f_V1 := F_V1 C hC
        have f_V2 := F_V2 C hC
        have f_V3 := F_V3 C hC
        have f_V4 := F_V4 C hC
        have f_U0 := F_U0 C hC
        have f_U1 := F_U1 C hC
        have f_U2 := F_U2 C hC
        have f_U3 := F_U3 C hC
        have f_U4 := F_U4 C hC
        repeat (go_big_quiet_step (fail))
        exact wpQuiet_nil rfl
      clear F_V0 F_V1 F_V2 F_V3 F_V4 F_U0 F_U1 F_U2 F_U3 F_U4
      refine wpPath_call (f := 12) (args := #[.slice a n c', rgv 0 i k1 j m]) rfl rfl (fun W => by simp only [opOf_succ, opOf_zero]; go_simp) ?_
      intro W2 hbW2
      have D := Lib.hid (below_on D.out hbW2)
      have P := Lib.hid (P.out.below hbW2 P.out.lt)
      have V := Lib.hid (V.out.below hbW2 V.out.lt)
      have U := Lib.hid (U.out.below hbW2 U.out.lt)
      refine (t1 W2 D.out).mono ?_
      rintro e W3 ⟨bI, nI, cI, rfl, hsI, hb3⟩
      refine ⟨_, rfl, hb3, ?_⟩
      simp only [opOf_succ, opOf_zero, Act.put, List.setIfInBounds_toArray, List.set_cons_zero, List.set_cons_succ]
      have D := Lib.hid (below_on D.out hb3)
      have P := Lib.hid (P.out.below hb3 P.out.lt)
      have V := Lib.hid (V.out.below hb3 V.out.lt)
      have U := Lib.hid (U.out.below hb3 U.out.lt)
      refine wpPath_call (f := 12) (args := #[.slice a n c', rgv 0 i k j m1]) rfl rfl (fun W => by simp only [opOf_succ, opOf_zero]; go_simp) ?_
      intro W4 hb4
      have D := Lib.hid (below_on D.out hb4)
      have P := Lib.hid (P.out.below hb4 P.out.lt)
      have V := Lib.hid (V.out.below hb4 V.out.lt)
      have U := Lib.hid (U.out.below hb4 U.out.lt)
      refine (t2 W4 D.out).mono ?_
      rintro e W5 ⟨bO, nO, cO, rfl, hsO, hb5⟩
      refine ⟨_, rfl, hb5, ?_⟩
      simp only [opOf_succ, opOf_zero, Act.put, List.setIfInBounds_toArray, List.set_cons_zero, List.set_cons_succ]
      have D := Lib.hid (below_on D.out hb5)
      have P := Lib.hid (P.out.below hb5 P.out.lt)
      have V := Lib.hid (V.out.below hb5 V.out.lt)
      have U := Lib.hid (U.out.below hb5 U.out.lt)
      refine wpPath_free (v := .slice bI nI cI) rfl rfl (fun _ => rfl) ?_
      simp only [opOf_succ, opOf_zero, Act.put, List.setIfInBounds_toArray, List.set_cons_zero, List.set_cons_succ]
      refine wpPath_free (v := .slice bO nO cO) rfl rfl (fun _ => rfl) ?_
      simp only [opOf_succ, opOf_zero, Act.put, List.setIfInBounds_toArray, List.set_cons_zero, List.set_cons_succ]
      refine wpPath_end fun x6 hb6 => ?_
      have D := Lib.hid (below_on D.out hb6)
      have P := Lib.hid (P.out.below hb6 P.out.lt)
      have V := Lib.hid (V.out.below hb6 V.out.lt)
      have U := Lib.hid (U.out.below hb6 U.out.lt)
      have SI := Lib.hid (SrcV.below hsI (below_on (below_on hb4 hb5) hb6))
      have SO := Lib.hid (SrcV.below hsO hb6)
      obtain rfl : nI = K := by have := Ss.length hsI; omega
      obtain rfl : nO = nI := by have := Ss.length hsO; omega
      clear hsI hsO hb3 hb4 hb5 hb6 hbW2 t1 t2
      have HL := Lib.hid (And.intro hlI (And.intro hlO (And.intro hmI hmO)))
      clear hlI hlO hmI hmO
      go_wp2
      go_loopw [20, 21, 22] (fun u v z wr => ∃ (q : Nat) (s t : ByteArray), q ≤ nO ∧ z = .int .i64 q ∧ u = .string s ∧ v = .string t ∧ s.size ≤ q * 1000001 ∧ t.size ≤ q * 1000001 ∧ Hid (s.data.toList = jb (LI.take q) ∧ t.data.toList = jb (LO.take q) ∧ Below x6.heap.size x6 wr)) (fun _ _ z _ => nO - (RowKit.intOf z).toNat)
      case atStart => exact ⟨0, ⟨#[]⟩, ⟨#[]⟩, Nat.zero_le _, rfl, rfl, rfl, Nat.zero_le _, Nat.zero_le _, rfl, rfl, Below.refl _ _⟩
      case round =>
        obtain ⟨q, s, t, hq1, rfl, rfl, rfl, hsz, htz, hQ⟩ := hrel
        by_cases hqK : q < nO
        · have hqI : q < LI.length := by rw [HL.out.1]; exact hqK
          have hqO : q < LO.length := by rw [HL.out.2.1]; exact hqK
          obtain ⟨hl1, hl2, hm1, hm2⟩ := HL.out
          obtain ⟨gI, oI, rfl, x0, nc0⟩ := Ss.read (SrcV.below SI.out hQ.out.2.2) q hqI
          obtain ⟨gO, oO, rfl, y0, nc1⟩ := Ss.read (SrcV.below SO.out hQ.out.2.2) q hqO
          obtain ⟨xe, hxe⟩ : ∃ xe, xe = LI[q]'hqI := ⟨_, rfl⟩
          obtain ⟨ye, hye⟩ : ∃ ye, ye = LO[q]'hqO := ⟨_, rfl⟩
          rw [← hxe] at x0
          rw [← hye] at y0
          have hxs : xe.size ≤ 1000000 := by rw [hxe]; exact hm1 _ (List.getElem_mem hqI)
          have hys : ye.size ≤ 1000000 := by rw [hye]; exact hm2 _ (List.getElem_mem hqO)
          have htk : LI.take (q + 1) = LI.take q ++ [xe] := by rw [List.take_succ_eq_append_getElem hqI, hxe]
          have htk2 : LO.take (q + 1) = LO.take q ++ [ye] := by rw [List.take_succ_eq_append_getElem hqO, hye]
          have HT := Lib.hid (And.intro htk htk2)
          have hs9 : s.size ≤ 2000000000000 := by omega
          have ht9 : t.size ≤ 2000000000000 := by omega
          have ca1 : ¬ 9223372036854775807 < s.size + xe.size := by omega
          have ca2 : ¬ 9223372036854775807 < s.size + xe.size + 1 := by omega
          have cb1 : ¬ 9223372036854775807 < t.size + ye.size := by omega
          have cb2 : ¬ 9223372036854775807 < t.size + ye.size + 1 := by omega
          have HSZ := Lib.hid (And.intro hsz (And.intro htz (And.intro hxs hys)))
          have f0 := fun z : Gr wr => z.cell x0
          have f1 := fun z : Gr wr => z.cell y0
          have hqi : (q : Int) < (nO : Int) := by omega
          have HQ := Lib.hid hqK
          clear htk htk2 hxe hye hl1 hl2 hm1 hm2 x0 y0 hsz htz hxs hys hs9 ht9 hqK hqI hqO
          go_upto_region 19 with fail
          refine wp_region_grow (by kernel_rfl) (by kernel_rfl) ?_
          repeat (go_big_quiet_step (fail))
          refine wpQuiet_nil ?_
          rintro V' ⟨⟨_, hbV⟩, rfl⟩
          clear f0 f1
          go_wp2
          go_roundw
          case rel =>
            refine ⟨q + 1, _, _, by have := HQ.out; omega, by have := HQ.out; go_num, rfl, rfl, ?_, ?_, ?_, ?_, below_on hQ.out.2.2 hbV⟩
            · obtain ⟨z1, z2, z3, z4⟩ := HSZ.out
              rw [ByteArray.size_append, ByteArray.size_append]
              show s.size + xe.size + 1 ≤ _
              omega
            · obtain ⟨z1, z2, z3, z4⟩ := HSZ.out
              rw [ByteArray.size_append, ByteArray.size_append]
              show t.size + ye.size + 1 ≤ _
              omega
            · rw [HT.out.1, jb_append, jb_one, app_list, app_list, hQ.out.1, List.append_assoc]
            · rw [HT.out.2, jb_append, jb_one, app_list, app_list, hQ.out.2.1, List.append_assoc]
          case measure => have := HQ.out; simp [RowKit.intOf]; omega
        · obtain rfl : q = nO := by omega
          obtain ⟨hl1, hl2, hm1, hm2⟩ := HL.out
          obtain ⟨e1, e2, hbE⟩ := hQ.out
          rw [List.take_of_length_le (by omega)] at e1 e2
          obtain ⟨hZ1, hZ2⟩ := HZ.out
          rw [hZ1] at e1
          rw [hZ2] at e2
          have hsl : s.size = Z.length + 1 := by rw [← size_str, e1, List.length_append]; rfl
          obtain ⟨z1, hz1⟩ : ∃ z1, z1 = Z.length := ⟨_, rfl⟩
          rw [← hz1] at hsl
          have hp : (s.extract 0 z1).data.toList = Z := by rw [ext_upto, e1, hz1, List.take_left' rfl]
          obtain ⟨O1, hO1⟩ : ∃ O1, O1 = strOfNums [(cc : Int)] := ⟨_, rfl⟩
          obtain ⟨O2, hO2⟩ : ∃ O2, O2 = strOfNums [(dd : Int)] := ⟨_, rfl⟩
          have hb1 : O1.data.toList = [oo] := by rw [hO1, ← HBY.out.1]; exact one_list oo
          have hb2 : O2.data.toList = [cl] := by rw [hO2, ← HBY.out.2]; exact one_list cl
          have hE : t = O1 ++ s.extract 0 z1 ++ O2 ++ ⟨#[10]⟩ := by
            apply str_ext
            rw [e2, app_list, app_list, app_list, hb1, hb2, hp]
          have hz9' : s.size ≤ 2000000000000 := by omega
          have so1 : O1.size = 1 := by rw [← size_str, hb1]; rfl
          have so2 : O2.size = 1 := by rw [← size_str, hb2]; rfl
          have sp : (s.extract 0 z1).size = z1 := by rw [← size_str, hp, hz1]
          have hwz : IntKind.i64.wrap ((s.size : Int) - 1) = (z1 : Int) := by rw [IntKind.wrap_i64]; omega
          have hle : z1 ≤ s.size := by omega
          have ca1 : ¬ 9223372036854775807 < O1.size + (s.extract 0 z1).size := by omega
          have ca2 : ¬ 9223372036854775807 < O1.size + (s.extract 0 z1).size + O2.size := by omega
          have ca3 : ¬ 9223372036854775807 < O1.size + (s.extract 0 z1).size + O2.size + 1 := by omega
          have hEE := Lib.hid hE
          have HO1 := Lib.hid hO1
          have HO2 := Lib.hid hO2
          clear hO1 hO2
          clear hl1 hl2 hm1 hm2 e1 e2 hZ1 hZ2 hsl hz1 hp hb1 hb2 hE so1 so2 sp hz9' hsz htz
          go_upto_region 20 with fail
          refine wp_region_fork [0, 1, 4, 5, 6, 7, 8, 10] 2 11 [(3, 0), (9, 0), (11, 1), (12, 0), (13, 0), (14, 0), (15, 0), (16, 2)] [(12, 0), (2, 1), (3, 0), (9, 0), (13, 0), (14, 0), (15, 0), (16, 2)] (by kernel_rfl) (by kernel_rfl) 116 rfl (by kernel_rfl) ?_
          simp only [List.map_cons, List.map_nil, opOf_succ, opOf_zero]
          apply Exists.intro
          refine ⟨fun C hC => ?_, fun W1 hW1 => ?_, fun W1 hW1 => ?_⟩
          · haveI hI := hC.one
            repeat (go_big_quiet_step (fail))
            exact wpQuiet_nil rfl
          · generalize s.extract 0 z1 = p at *
            refine fork_make (u := .slice (some ⟨W1.heap.size, 0, none⟩) 1 1) (W' := W1.alloc (.cells #[.int .u8 cc] 5)) rfl rfl (by simp only [opOf_succ, opOf_zero]; go_simp) ⟨(Below.refl _ W1).alloc (Nat.le_refl _) _, ?_⟩
            simp only [opOf_succ, opOf_zero, Act.put, List.setIfInBounds_toArray, List.set_cons_zero, List.set_cons_succ]
            have x_V1 : (W1.alloc (.cells #[.int .u8 cc] 5)).cell? ⟨W1.heap.size, 0, none⟩ = some (.int .u8 cc) := (cell_of_row _ _ 0 _ _ _ (heap_alloc_new W1 _)).trans (by simp)
            obtain ⟨V1, hV1⟩ : ∃ V, V = W1.alloc (.cells #[.int .u8 cc] 5) := ⟨_, rfl⟩
            have B_V1 : Below W1.heap.size W1 V1 := by rw [hV1]; exact (Below.refl _ W1).alloc (Nat.le_refl _) _
            rw [← hV1] at x_V1 ⊢
            obtain ⟨g_V1, hg_V1⟩ : ∃ g, g = W1.heap.size := ⟨_, rfl⟩
            rw [← hg_V1] at x_V1 ⊢
            have F_V1 : ∀ (C : World → Prop) (hC : Grows V1 C) (z : In C), (convert 30 9 (.slice (some ⟨g_V1, 0, none⟩) 1 1)).run Try.prog z.W = .ok (.string O1) z.W := fun C hC z => by rw [HO1.out]; exact conv_one (hC.cell x_V1 z)
            clear x_V1 hV1 hg_V1
            refine wpPath_on (r := [(11, 1), (12, 0), (13, 0), (14, 0), (15, 0), (16, 2)]) [3, 9] 116 rfl (by kernel_rfl) ?_
            simp only [List.map_cons, List.map_nil, opOf_succ, opOf_zero]
            apply Exists.intro
            refine ⟨fun C hC => ?_, ?_⟩
            · haveI hI := hC.one
              have f_V1 := F_V1 C hC
              repeat (go_big_quiet_step (fail))
              exact wpQuiet_nil rfl
            clear F_V1
            refine wpPath_make rfl fun W2 hb_W2 => ⟨.slice (some ⟨W2.heap.size, 0, none⟩) 1 1, W2.alloc (.cells #[.int .u8 dd] 5), rfl, by simp only [opOf_succ, opOf_zero]; go_simp, (Below.refl _ W2).alloc (Nat.le_refl _) _, ?_⟩
            simp only [opOf_succ, opOf_zero, Act.put, List.setIfInBounds_toArray, List.set_cons_zero, List.set_cons_succ]
            have x_V2 : (W2.alloc (.cells #[.int .u8 dd] 5)).cell? ⟨W2.heap.size, 0, none⟩ = some (.int .u8 dd) := (cell_of_row _ _ 0 _ _ _ (heap_alloc_new W2 _)).trans (by simp)
            obtain ⟨V2, hV2⟩ : ∃ V, V = W2.alloc (.cells #[.int .u8 dd] 5) := ⟨_, rfl⟩
            have B_V2 : Below W2.heap.size W2 V2 := by rw [hV2]; exact (Below.refl _ W2).alloc (Nat.le_refl _) _
            rw [← hV2] at x_V2 ⊢
            obtain ⟨g_V2, hg_V2⟩ : ∃ g, g = W2.heap.size := ⟨_, rfl⟩
            rw [← hg_V2] at x_V2 ⊢
            have F_V2 : ∀ (C : World → Prop) (hC : Grows V2 C) (z : In C), (convert 30 9 (.slice (some ⟨g_V2, 0, none⟩) 1 1)).run Try.prog z.W = .ok (.string O2) z.W := fun C hC z => by rw [HO2.out]; exact conv_one (hC.cell x_V2 z)
            clear x_V2 hV2 hg_V2
            refine wpPath_on (r := [(16, 2)]) [12, 13, 14, 15] 116 rfl (by kernel_rfl) ?_
            simp only [List.map_cons, List.map_nil, opOf_succ, opOf_zero]
            apply Exists.intro
            refine ⟨fun C hC => ?_, ?_⟩
            · haveI hI := hC.one
              have f_V2 := F_V2 C hC
              repeat (go_big_quiet_step (fail))
              exact wpQuiet_nil rfl
            clear F_V2
            refine wpPath_free (v := _) rfl rfl (fun _ => rfl) ?_
            simp only [opOf_succ, opOf_zero, Act.put, List.setIfInBounds_toArray, List.set_cons_zero, List.set_cons_succ]
            refine wpPath_end fun x9 hb9 => ?_
            go_wp2
            go_ret
            refine ⟨?_, below_on HB1.out (below_on (below_on (below_on (below_on (below_on (below_on D.out hbE) hW1) B_V1) hb_W2) B_V2) hb9)⟩
            exact congrArg (fun b => Ending.returned (.bool b)) (show (t.toList == (O1 ++ p ++ O2 ++ ⟨#[10]⟩).toList) = true from by rw [← hEE.out]; exact beq_self_eq_true t.toList)
          · generalize s.extract 0 z1 = p at *
            refine fork_make (u := .slice (some ⟨W1.heap.size, 0, none⟩) 1 1) (W' := W1.alloc (.cells #[.int .u8 dd] 5)) rfl rfl (by simp only [opOf_succ, opOf_zero]; go_simp) ⟨(Below.refl _ W1).alloc (Nat.le_refl _) _, ?_⟩
            simp only [opOf_succ, opOf_zero, Act.put, List.setIfInBounds_toArray, List.set_cons_zero, List.set_cons_succ]
            have x_V1 : (W1.alloc (.cells #[.int .u8 dd] 5)).cell? ⟨W1.heap.size, 0, none⟩ = some (.int .u8 dd) := (cell_of_row _ _ 0 _ _ _ (heap_alloc_new W1 _)).trans (by simp)
            obtain ⟨V1, hV1⟩ : ∃ V, V = W1.alloc (.cells #[.int .u8 dd] 5) := ⟨_, rfl⟩
            have B_V1 : Below W1.heap.size W1 V1 := by rw [hV1]; exact (Below.refl _ W1).alloc (Nat.le_refl _) _
            rw [← hV1] at x_V1 ⊢
            obtain ⟨g_V1, hg_V1⟩ : ∃ g, g = W1.heap.size := ⟨_, rfl⟩
            rw [← hg_V1] at x_V1 ⊢
            have F_V1 : ∀ (C : World → Prop) (hC : Grows V1 C) (z : In C), (convert 30 9 (.slice (some ⟨g_V1, 0, none⟩) 1 1)).run Try.prog z.W = .ok (.string O2) z.W := fun C hC z => by rw [HO2.out]; exact conv_one (hC.cell x_V1 z)
            clear x_V1 hV1 hg_V1
            refine wpPath_on (r := [(2, 1), (3, 0), (9, 0), (13, 0), (14, 0), (15, 0), (16, 2)]) [12] 116 rfl (by kernel_rfl) ?_
            simp only [List.map_cons, List.map_nil, opOf_succ, opOf_zero]
            apply Exists.intro
            refine ⟨fun C hC => ?_, ?_⟩
            · haveI hI := hC.one
              have f_V1 := F_V1 C hC
              repeat (go_big_quiet_step (fail))
              exact wpQuiet_nil rfl
            clear F_V1
            refine wpPath_make rfl fun W2 hb_W2 => ⟨.slice (some ⟨W2.heap.size, 0, none⟩) 1 1, W2.alloc (.cells #[.int .u8 cc] 5), rfl, by simp only [opOf_succ, opOf_zero]; go_simp, (Below.refl _ W2).alloc (Nat.le_refl _) _, ?_⟩
            simp only [opOf_succ, opOf_zero, Act.put, List.setIfInBounds_toArray, List.set_cons_zero, List.set_cons_succ]
            have x_V2 : (W2.alloc (.cells #[.int .u8 cc] 5)).cell? ⟨W2.heap.size, 0, none⟩ = some (.int .u8 cc) := (cell_of_row _ _ 0 _ _ _ (heap_alloc_new W2 _)).trans (by simp)
            obtain ⟨V2, hV2⟩ : ∃ V, V = W2.alloc (.cells #[.int .u8 cc] 5) := ⟨_, rfl⟩
            have B_V2 : Below W2.heap.size W2 V2 := by rw [hV2]; exact (Below.refl _ W2).alloc (Nat.le_refl _) _
            rw [← hV2] at x_V2 ⊢
            obtain ⟨g_V2, hg_V2⟩ : ∃ g, g = W2.heap.size := ⟨_, rfl⟩
            rw [← hg_V2] at x_V2 ⊢
            have F_V2 : ∀ (C : World → Prop) (hC : Grows V2 C) (z : In C), (convert 30 9 (.slice (some ⟨g_V2, 0, none⟩) 1 1)).run Try.prog z.W = .ok (.string O1) z.W := fun C hC z => by rw [HO1.out]; exact conv_one (hC.cell x_V2 z)
            clear x_V2 hV2 hg_V2
            refine wpPath_on (r := [(16, 2)]) [3, 9, 13, 14, 15] 116 rfl (by kernel_rfl) ?_
            simp only [List.map_cons, List.map_nil, opOf_succ, opOf_zero]
            apply Exists.intro
            refine ⟨fun C hC => ?_, ?_⟩
            · haveI hI := hC.one
              have f_V2 := F_V2 C hC
              repeat (go_big_quiet_step (fail))
              exact wpQuiet_nil rfl
            clear F_V2
            refine wpPath_free (v := _) rfl rfl (fun _ => rfl) ?_
            simp only [opOf_succ, opOf_zero, Act.put, List.setIfInBounds_toArray, List.set_cons_zero, List.set_cons_succ]
            refine wpPath_end fun x9 hb9 => ?_
            go_wp2
            go_ret
            refine ⟨?_, below_on HB1.out (below_on (below_on (below_on (below_on (below_on (below_on D.out hbE) hW1) B_V1) hb_W2) B_V2) hb9)⟩
            exact congrArg (fun b => Ending.returned (.bool b)) (show (t.toList == (O1 ++ p ++ O2 ++ ⟨#[10]⟩).toList) = true from by rw [← hEE.out]; exact beq_self_eq_true t.toList)
end Go.Proofs.Ytbimblfkkmpieaa.NAr
