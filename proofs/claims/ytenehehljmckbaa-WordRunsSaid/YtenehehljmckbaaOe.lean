/-
  Package wordobj: covered, pastBlanks, grouped, inside.
-/
import Derived.Test.YtenehehljmckbaaOr
set_option linter.unusedVariables false
set_option linter.unusedSimpArgs false
set_option maxRecDepth 100000
namespace Go.Proofs.Ytenehehljmckbaa.Wo
open Go Go.RowKit Go.Proofs.Ytenehehljmckbaa.Vk Go.Proofs.Ytenehehljmckbaa.Str Go.Proofs.Ytenehehljmckbaa.Ln Go.Proofs.Ytenehehljmckbaa.Cl Go.Proofs.Ytenehehljmckbaa.Mv
attribute [local go_sem] Oper.semAt_some

set_option maxHeartbeats 2000000 in
theorem covered_any (L A B : Int) (g o n c : Nat) (w : World) (hn : 0 < n) (hn6 : n ≤ 1000000) (c0 : w.cell? ⟨g, o, none⟩ = some (.int .i64 A)) (c1 : w.cell? ⟨g, o + (n - 1) * 3 + 1, none⟩ = some (.int .i64 B)) :
    Calls Try.prog 24 #[.int .i64 L, .slice (some ⟨g, o, none⟩) n c] w fun e w' => e = .returned (rgv 0 L A L B) ∧ Below w.heap.size w w' := by
  obtain ⟨M, hM⟩ : ∃ M, M = n - 1 := ⟨_, rfl⟩
  rw [← hM] at c1
  have hw : IntKind.i64.wrap ((n : Int) - 1) = (M : Int) := by rw [IntKind.wrap_i64]; omega
  have b0 : (M : Int) < (n : Int) := by omega
  have b1 : (0 : Int) < (n : Int) := by omega
  obtain ⟨X, hX⟩ : ∃ X, X = w.alloc (.cells #[.int .i64 0, .int .i64 0, .int .i64 0, .int .i64 0, .int .i64 0] 43) := ⟨_, rfl⟩
  have hr : RgAt X w.heap.size 0 0 0 0 0 := by rw [hX]; exact RgAt.new _ _ _ _ _ _
  have hb : Below w.heap.size w X := by rw [hX]; exact (Below.refl _ w).alloc (Nat.le_refl _) _
  have c0 := cell_later hb c0
  have c1 := cell_later hb c1
  have f0 := fun z : Gr X => z.cell c0
  have f1 := fun z : Gr X => z.cell c1
  have HX := Lib.hid hX
  have HR := Lib.hid (And.intro hr hb)
  have HM := Lib.hid hM
  clear hX hr hb c0 c1 hM
  go_enter Try.func24, Try.ntmps24
  go_upto_region 1 with fail
  rw [← HX.out]
  refine wp_region_grow_tail 16 (by kernel_rfl) (by kernel_rfl) ?_
  simp only [List.take_succ_cons, List.take_zero, List.drop_succ_cons, List.drop_zero]
  repeat (go_big_quiet_step (fail))
  refine wpQuiet_nil ?_
  rintro V ⟨⟨_, hbV⟩, rfl⟩
  have hr := HR.out.1.below hbV HR.out.1.lt
  have hb := HR.out.2.trans (hbV.mono HR.out.2.size)
  have r0 := hr.c0
  have r1 := hr.c1
  have r2 := hr.c2
  have r3 := hr.c3
  have r4 := hr.c4
  have z := hr.z
  have HE := Lib.hid (And.intro (hr.put 0 L A L B) (putR_below hb (g := w.heap.size) (by omega) 0 L A L B))
  clear f0 f1 hr hb hbV
  go_wp2
  exact bodyPost_ret (results_cell_row (P := Try.prog) rfl _ _ w.heap.size _ #[.int .i64 0, .int .i64 L, .int .i64 A, .int .i64 L, .int .i64 B] _ _ rfl HE.out.1 Try.underlying43 rfl (by kernel_rfl)) rfl ⟨rfl, HE.out.2⟩

theorem past_any (s : ByteArray) (b : Bool) (a : Option Addr) (n c : Nat) (l : List RN) (i : Nat) (w : World) (h : Ws s b w a n c l) (hn : n ≤ 1000000) :
    Calls Try.prog 33 #[.slice a n c, .int .i64 i] w fun e w' => e = .returned (.int .i64 (pb s b l i)) ∧ w = w' := by
  have hlen := h.length
  by_cases hi : i < n
  · obtain ⟨g, o, rfl, x0, x1, x2, hnc⟩ := h.read i (by omega)
    have b0 : decide (i < n) = true := decide_eq_true hi
    have b1 : (i : Int) < (n : Int) := by omega
    obtain ⟨M, hM⟩ : ∃ M, M = i + 1 := ⟨_, rfl⟩
    have hwM : IntKind.i64.wrap ((i : Int) + 1) = (M : Int) := by rw [IntKind.wrap_i64]; omega
    cases hbb : bb s b l i
    · have HV := Lib.hid (show pb s b l i = i by unfold pb; rw [hbb]; rfl)
      rw [hbb] at x2
      clear hM hbb h
      go_enter Try.func33, Try.ntmps33
      go_wp2
      go_ret
      exact ⟨by rw [HV.out]; rfl, rfl⟩
    · have HV := Lib.hid (show pb s b l i = M by unfold pb; rw [hbb, hM]; rfl)
      rw [hbb] at x2
      clear hM hbb h
      go_enter Try.func33, Try.ntmps33
      go_wp2
      go_ret
      exact ⟨by rw [HV.out]; rfl, rfl⟩
  · have b0 : decide (i < n) = false := decide_eq_false hi
    have b1 : decide ((i : Int) < (n : Int)) = false := decide_eq_false (by omega)
    have HV := Lib.hid (show pb s b l i = i by unfold pb; rw [bb_out (by omega)]; rfl)
    clear h
    go_enter Try.func33, Try.ntmps33
    go_wp2
    go_ret
    exact ⟨by rw [HV.out]; rfl, rfl⟩

/-- What grouped answers. -/
def grV (r : Option Nat) : Value := match r with
  | some e => .tuple #[.int .i64 (e : Int), .bool true]
  | none => .tuple #[.int .i64 0, .bool false]
set_option maxHeartbeats 4000000 in
theorem grouped_any (s : ByteArray) (b : Bool) (a : Option Addr) (n c : Nat) (l : List RN) (k N : Nat) (w : World) (h : Ws s b w a n c l) (hn : n ≤ 1000000) (hk : k < n) :
    Calls Try.prog 28 #[.slice a n c, .int .i64 k, .int .i64 N] w fun e w' => e = .returned (grV (gr s b l (bb s b l k) N k)) ∧ w = w' := by
  have hlen := h.length
  obtain ⟨g, o, rfl, x0, x1, x2, hnc⟩ := h.read k (by omega)
  have b1 : (k : Int) < (n : Int) := by omega
  have hp := fun i => past_any s b _ n c l i w h hn
  clear x0 x1 h
  cases hah : bb s b l k
  · rw [hah] at x2
    clear hah
    go_enter Try.func28, Try.ntmps28
    go_wp2
    clear x2
    go_loop [9, 17] (fun e i => ∃ d j : Nat, e = .int .i64 d ∧ i = .int .i64 j ∧ Hid (j ≤ N ∧ gr s b l false j k = some d)) (fun _ i => N - (RowKit.intOf i).toNat)
    case atStart => exact ⟨k, 0, rfl, rfl, Nat.zero_le _, rfl⟩
    case round =>
      obtain ⟨d, j, rfl, rfl, hR⟩ := hrel
      have hle := gr_le (s := s) (b := b) (l := l) (ah := false) (k := k) (by omega) j d hR.out.2
      by_cases hjN : j < N
      · have e0 : decide (j < N) = true := decide_eq_true hjN
        have e1 : (j : Int) < (N : Int) := by omega
        obtain ⟨J, hJ⟩ : ∃ J, J = j + 1 := ⟨_, rfl⟩
        have hwJ : IntKind.i64.wrap ((j : Int) + 1) = (J : Int) := by rw [IntKind.wrap_i64]; omega
        have HJ := Lib.hid hJ
        by_cases hdn : d = n
        · have hnone : gr s b l false (j + 1) k = none := by
            rw [gr_some hR.out.2]; unfold stp; simp only [Bool.false_eq_true, if_false]; rw [if_pos (by omega)]
          have HV := Lib.hid (gr_none hnone N (by omega))
          have e2 : ((d : Int) == (n : Int)) = true := by rw [beq_iff_eq]; omega
          have e3 : (d == n) = true := by rw [beq_iff_eq]; exact hdn
          have HD := Lib.hid hdn
          clear hJ hnone hdn
          go_wp2
          go_ret2
          exact ⟨by rw [HV.out]; rfl, rfl⟩
        · obtain ⟨M, hM⟩ : ∃ M, M = d + 1 := ⟨_, rfl⟩
          have hwM : IntKind.i64.wrap ((d : Int) + 1) = (M : Int) := by rw [IntKind.wrap_i64]; omega
          have hsome : gr s b l false (j + 1) k = some (pb s b l M) := by
            rw [gr_some hR.out.2]; unfold stp; simp only [Bool.false_eq_true, if_false]; rw [if_neg (by omega), hM]
          rw [← hJ] at hsome
          have HS := Lib.hid hsome
          have e2 : ((d : Int) == (n : Int)) = false := by rw [beq_eq_false_iff_ne]; omega
          have e3 : (d == n) = false := by rw [beq_eq_false_iff_ne]; exact hdn
          have hpM := hp M
          obtain ⟨Q, hQ⟩ : ∃ Q, Q = pb s b l M := ⟨_, rfl⟩
          rw [← hQ] at hpM
          have HQ := Lib.hid hQ
          clear hJ hsome hdn hM hQ
          go_wp2_with fail
          refine hpM.mono ?_
          rintro e w' ⟨rfl, rfl⟩
          clear hpM
          go_wp2
          go_round
          case rel => exact ⟨Q, J, rfl, rfl, by have := HJ.out; omega, by rw [HQ.out]; exact HS.out⟩
          case measure => have := HJ.out; simp [RowKit.intOf]; omega
      · have e0 : decide (j < N) = false := decide_eq_false hjN
        have e1 : decide ((j : Int) < (N : Int)) = false := decide_eq_false (by omega)
        have HV := Lib.hid (show gr s b l false N k = some d by rw [show N = j by have := hR.out.1; omega]; exact hR.out.2)
        go_wp2
        go_ret2
        exact ⟨by rw [HV.out]; rfl, rfl⟩
  · rw [hah] at x2
    clear hah
    go_enter Try.func28, Try.ntmps28
    go_wp2
    clear x2
    go_loop [9, 17] (fun e i => ∃ d j : Nat, e = .int .i64 d ∧ i = .int .i64 j ∧ Hid (j ≤ N ∧ gr s b l true j k = some d)) (fun _ i => N - (RowKit.intOf i).toNat)
    case atStart => exact ⟨k, 0, rfl, rfl, Nat.zero_le _, rfl⟩
    case round =>
      obtain ⟨d, j, rfl, rfl, hR⟩ := hrel
      have hle := gr_le (s := s) (b := b) (l := l) (ah := true) (k := k) (by omega) j d hR.out.2
      by_cases hjN : j < N
      · have e0 : decide (j < N) = true := decide_eq_true hjN
        have e1 : (j : Int) < (N : Int) := by omega
        obtain ⟨J, hJ⟩ : ∃ J, J = j + 1 := ⟨_, rfl⟩
        have hwJ : IntKind.i64.wrap ((j : Int) + 1) = (J : Int) := by rw [IntKind.wrap_i64]; omega
        have HJ := Lib.hid hJ
        have hpM := hp d
        have hpl := pb_le (s := s) (b := b) (l := l) (i := d) hle.2
        have hst : gr s b l true (j + 1) k = if pb s b l d = l.length then none else some (pb s b l d + 1) := by
          rw [gr_some hR.out.2]; unfold stp; simp only [if_true]
        obtain ⟨Q, hQ⟩ : ∃ Q, Q = pb s b l d := ⟨_, rfl⟩
        rw [← hQ] at hpM hpl hst
        by_cases hdn : Q = n
        · have hnone : gr s b l true (j + 1) k = none := by rw [hst, if_pos (by omega)]
          have HV := Lib.hid (gr_none hnone N (by omega))
          have e2 : ((Q : Int) == (n : Int)) = true := by rw [beq_iff_eq]; omega
          have e3 : (Q == n) = true := by rw [beq_iff_eq]; exact hdn
          have HD := Lib.hid hdn
          clear hJ hnone hdn hst hQ
          go_wp2_with fail
          refine hpM.mono ?_
          rintro e w' ⟨rfl, rfl⟩
          clear hpM
          go_wp2
          go_ret2
          exact ⟨by rw [HV.out]; rfl, rfl⟩
        · obtain ⟨M, hM⟩ : ∃ M, M = Q + 1 := ⟨_, rfl⟩
          have hwM : IntKind.i64.wrap ((Q : Int) + 1) = (M : Int) := by rw [IntKind.wrap_i64]; omega
          have hsome : gr s b l true (j + 1) k = some M := by rw [hst, if_neg (by omega), hM]
          rw [← hJ] at hsome
          have HS := Lib.hid hsome
          have e2 : ((Q : Int) == (n : Int)) = false := by rw [beq_eq_false_iff_ne]; omega
          have e3 : (Q == n) = false := by rw [beq_eq_false_iff_ne]; exact hdn
          clear hJ hsome hdn hM hQ hst
          go_wp2_with fail
          refine hpM.mono ?_
          rintro e w' ⟨rfl, rfl⟩
          clear hpM
          go_wp2
          go_round
          case rel => exact ⟨M, J, rfl, rfl, by have := HJ.out; omega, HS.out⟩
          case measure => have := HJ.out; simp [RowKit.intOf]; omega
      · have e0 : decide (j < N) = false := decide_eq_false hjN
        have e1 : decide ((j : Int) < (N : Int)) = false := decide_eq_false (by omega)
        have HV := Lib.hid (show gr s b l true N k = some d by rw [show N = j by have := hR.out.1; omega]; exact hR.out.2)
        go_wp2
        go_ret2
        exact ⟨by rw [HV.out]; rfl, rfl⟩
end Go.Proofs.Ytenehehljmckbaa.Wo
