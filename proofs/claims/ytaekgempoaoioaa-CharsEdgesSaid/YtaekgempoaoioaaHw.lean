/-
  Layer 7's laws: same, and the chapter's example (known).
-/
import Derived.Test.YtaekgempoaoioaaHr
import Derived.Test.YtaekgempoaoioaaHs
import Derived.Test.YtaekgempoaoioaaHz
import Derived.Test.YtaekgempoaoioaaHc
import Derived.Test.YtaekgempoaoioaaHv
set_option linter.unusedVariables false
set_option linter.unusedSimpArgs false
set_option maxRecDepth 100000
namespace Go.Proofs.Ytaekgempoaoioaa.Ch
open Go Go.RowKit Go.Proofs.Ytaekgempoaoioaa.Vk Go.Proofs.Ytaekgempoaoioaa.Str Go.Proofs.Ytaekgempoaoioaa.Ln Go.Proofs.Ytaekgempoaoioaa.Cl Go.Proofs.Ytaekgempoaoioaa.Mv
attribute [local go_sem] Oper.semAt_some

/-- Two motions are held against one another. -/
theorem eq_mv (l c y q l' c' y' q' : Int) (j j' : Bool) (w : World) : (binOp .eql 32 (mvv l c y j q) (mvv l' c' y' j' q')).run Try.prog w = .ok (.bool (decide (l = l' ∧ c = c' ∧ y = y' ∧ j = j' ∧ q = q'))) w := by
  have hS : Try.prog.underlying 32 = some (.struct (Try.prog.fieldsOf 32)) := by kernel_rfl
  have hp : Try.prog.stoodInHeld 32 = false := by kernel_rfl
  have hS2 : Try.prog.underlying 24 = some (.struct (Try.prog.fieldsOf 24)) := by kernel_rfl
  have hp2 : Try.prog.stoodInHeld 24 = false := by kernel_rfl
  rw [run_eql_struct, show (10000 : Nat) = 9999 + 1 from rfl, run_equalIn_agg w 9999 32 _ _ hS hp]
  have hin : ∀ W : World, (Op.equalIn 9999 24 (.agg #[.int .i64 l, .int .i64 c]) (.agg #[.int .i64 l', .int .i64 c'])).run Try.prog W = .ok (decide (l = l') && decide (c = c')) W := fun W => by
    rw [show (9999 : Nat) = 9998 + 1 from rfl, run_equalIn_agg W 9998 24 _ _ hS2 hp2]
    simp only [Program.fieldsOf, Try.underlying24]
    go_simp
    by_cases h1 : l = l' <;> by_cases h2 : c = c' <;> simp [h1, h2]
  have p1 : ∀ W : World, (part 24 #[.int .i64 l, .int .i64 c, .int .i64 y, .bool j, .int .i64 q] 0).run Try.prog W = .ok (.agg #[.int .i64 l, .int .i64 c]) W := fun _ => by kernel_rfl
  have p2 : ∀ W : World, (part 24 #[.int .i64 l', .int .i64 c', .int .i64 y', .bool j', .int .i64 q'] 0).run Try.prog W = .ok (.agg #[.int .i64 l', .int .i64 c']) W := fun _ => by kernel_rfl
  simp only [Program.fieldsOf, Try.underlying32, Op.eqFields, Sem.run_bind, Sem.run_ite, p1, p2, hin, Result.andThen_ok, ne_eq, String.reduceEq, not_false_eq_true, if_true]
  by_cases h1 : l = l'
  · by_cases h2 : c = c'
    · subst h1 h2
      clear hin p1 p2
      simp only [decide_true, Bool.and_self, Bool.not_true, Bool.false_eq_true, if_false]
      go_simp
      by_cases h3 : y = y' <;> by_cases h4 : j = j' <;> by_cases h5 : q = q' <;> simp [h3, h4, h5]
    · simp [h1, h2]
  · simp [h1]

theorem law_same (l c y q l' c' y' q' : Int) (j j' o o' : Bool) (w : World) : Calls Try.prog 14 #[mvv l c y j q, .bool o, mvv l' c' y' j' q', .bool o'] w fun e w' => e = .returned (.bool (decide ((l = l' ∧ c = c' ∧ y = y' ∧ j = j' ∧ q = q') ∧ o = o'))) ∧ Below w.heap.size w w' := by
  have he := fun W => eq_mv l c y q l' c' y' q' j j' W
  have hd : decide ((l = l' ∧ c = c' ∧ y = y' ∧ j = j' ∧ q = q') ∧ o = o') = (decide (l = l' ∧ c = c' ∧ y = y' ∧ j = j' ∧ q = q') && (o == o')) := by
    cases o <;> cases o' <;> simp
  rw [hd]
  generalize decide (l = l' ∧ c = c' ∧ y = y' ∧ j = j' ∧ q = q') = d at *
  clear hd
  cases d
  · go_enter Try.func14, Try.ntmps14
    go_wp2
    go_ret
    exact ⟨rfl, two_below _ _ _⟩
  · go_enter Try.func14, Try.ntmps14
    go_wp2
    go_ret
    exact ⟨rfl, two_below _ _ _⟩

theorem same_same (r : R) (w : World) : Calls Try.prog 14 #[.agg #[.int .i64 r.l, .int .i64 r.c, .int .i64 r.way, .bool r.j, .int .i64 r.want], .bool r.ok, .agg #[.int .i64 r.l, .int .i64 r.c, .int .i64 r.way, .bool r.j, .int .i64 r.want], .bool r.ok] w
    fun e w' => e = .returned (.bool true) ∧ Below w.heap.size w w' := by
  have h := law_same r.l r.c r.way r.want r.l r.c r.way r.want r.j r.j r.ok r.ok w
  rw [decide_eq_true (by simp)] at h
  exact h

abbrev exl : List ByteArray := [⟨#[97, 98, 99, 98]⟩]
theorem exl_size (z : Nat) (hz : 4 ≤ z) : ∀ s ∈ exl, s.size ≤ z := by
  intro s hs
  simp only [exl, List.mem_singleton] at hs
  rw [hs]; exact hz
def mvCells (l c y : Int) (j : Bool) (q : Int) : Obj := .cells #[.int .i64 l, .int .i64 c, .int .i64 y, .bool j, .int .i64 q] 32
/-- A motion's answer, laid into a variable of its own. -/
theorem laid {w w' : World} {l c y q : Int} {j : Bool} (hb : Below w.heap.size w w') : Below w.heap.size w (w'.alloc (mvCells l c y j q)) ∧ MvAt (w'.alloc (mvCells l c y j q)) w'.heap.size l c y j q ∧ w.heap.size ≤ w'.heap.size ∧ (w'.alloc (mvCells l c y j q)).heap.size = w'.heap.size + 1 :=
  ⟨hb.alloc hb.size _, MvAt.new _ _ _ _ _ _, hb.size, by simp⟩

set_option maxHeartbeats 4000000 in
theorem known_any (w : World) : Calls Try.prog 9 #[] w fun e w' => e = .returned (.bool true) ∧ Below w.heap.size w w' := by
  obtain ⟨X, hX⟩ : ∃ X, X = w.alloc (.cells #[.string ⟨#[97, 98, 99, 98]⟩] 9) := ⟨_, rfl⟩
  have hb0 : Below w.heap.size w X := by rw [hX]; exact (Below.refl _ w).alloc (Nat.le_refl _) _
  have hs0 : Ss X (some ⟨w.heap.size, 0, none⟩) 1 1 exl := by
    rw [hX]
    exact SrcV.lit w #[.string ⟨#[97, 98, 99, 98]⟩] 9 1 rfl (by simp [Value.oneCell']) (by simp [maxLen])
  have HX := Lib.hid hX
  have HS := Lib.hid hs0
  have HB := Lib.hid hb0
  have c1 := fun W (hW : Below X.heap.size X W) => seek_any _ 1 1 exl 0 0 102 98 2 W (SrcV.below HS.out hW) (exl_size _ (by omega)) (exl_size _ (by omega))
  have c2 := fun W (hW : Below X.heap.size X W) => left_any _ 1 1 exl 0 0 1 W (SrcV.below HS.out hW) (exl_size _ (by omega))
  have c3 := fun W (hW : Below X.heap.size X W) => right_any _ 1 1 exl 0 3 1 true W (SrcV.below HS.out hW) (exl_size _ (by omega))
  have c4 := fun W (hW : Below X.heap.size X W) => last_of_any _ 1 1 exl 0 0 1 W (SrcV.below HS.out hW) (exl_size _ (by omega))
  rw [show seekR exl 0 0 102 98 2 = ⟨0, 3, 1, false, -1, true⟩ from by kernel_rfl] at c1
  rw [show leftR exl 0 0 1 = ⟨0, 0, 0, false, 0, false⟩ from by kernel_rfl] at c2
  rw [show rightR exl 0 3 1 true = ⟨0, 4, 0, false, -1, true⟩ from by kernel_rfl] at c3
  rw [show lastR exl 0 0 1 = ⟨0, 3, 1, false, 1073741824, true⟩ from by kernel_rfl] at c4
  have he : ∀ W, (binOp .eql 32 (.agg #[.int .i64 0, .int .i64 3, .int .i64 1, .bool false, .int .i64 (-1)]) (.agg #[.int .i64 0, .int .i64 3, .int .i64 1, .bool false, .int .i64 (-1)])).run Try.prog W = .ok (.bool true) W := fun W => eq_mv 0 3 1 (-1) 0 3 1 (-1) false false W
  clear hX hs0 hb0
  go_enter Try.func9, Try.ntmps9
  go_wp2_with fail
  rw [← HX.out]
  refine (c1 X (Below.refl _ X)).mono ?_
  rintro e w1 ⟨rfl, hb1⟩
  obtain ⟨d1, v1, z1, y1⟩ := laid (l := 0) (c := 3) (y := 1) (j := false) (q := -1) hb1
  have k2 := c2 _ d1
  unfold mvCells at k2
  clear c1 c2
  go_wp2_with fail
  refine k2.mono ?_
  obtain ⟨x1, hx1⟩ : ∃ x1, x1 = w1.alloc (mvCells 0 3 1 false (-1)) := ⟨_, rfl⟩
  rw [← hx1] at d1 v1 y1
  have e1 := hx1.symm
  unfold mvCells at e1
  rw [e1]
  clear e1 hx1 k2
  rintro e w2 ⟨rfl, hb2⟩
  have D2 := below_on d1 hb2
  have V1 := v1.below hb2 v1.lt
  obtain ⟨d2, _, z2, y2⟩ := laid (l := 0) (c := 0) (y := 0) (j := false) (q := 0) D2
  have V1 := V1.below ((Below.refl _ w2).alloc (Nat.le_refl _) (mvCells 0 0 0 false 0)) V1.lt
  have k3 := c3 _ d2
  unfold mvCells at k3
  clear c3 hb2 D2 d1 v1
  go_wp2_with fail
  refine k3.mono ?_
  obtain ⟨x2, hx2⟩ : ∃ x2, x2 = w2.alloc (mvCells 0 0 0 false 0) := ⟨_, rfl⟩
  rw [← hx2] at d2 V1 y2
  have e2 := hx2.symm
  unfold mvCells at e2
  rw [e2]
  clear e2 hx2 k3
  rintro e w3 ⟨rfl, hb3⟩
  have D3 := below_on d2 hb3
  have V1 := V1.below hb3 V1.lt
  obtain ⟨d3, v3, z3, y3⟩ := laid (l := 0) (c := 4) (y := 0) (j := false) (q := -1) D3
  have V1 := V1.below ((Below.refl _ w3).alloc (Nat.le_refl _) (mvCells 0 4 0 false (-1))) V1.lt
  have k4 := c4 _ d3
  unfold mvCells at k4
  clear c4 hb3 D3 d2
  go_wp2_with fail
  refine k4.mono ?_
  obtain ⟨x3, hx3⟩ : ∃ x3, x3 = w3.alloc (mvCells 0 4 0 false (-1)) := ⟨_, rfl⟩
  rw [← hx3] at d3 V1 v3 y3
  have e3 := hx3.symm
  unfold mvCells at e3
  rw [e3]
  clear e3 hx3 k4
  rintro e w4 ⟨rfl, hb4⟩
  have D4 := below_on d3 hb4
  have V1 := V1.below hb4 V1.lt
  have V3 := v3.below hb4 v3.lt
  obtain ⟨d4, v4, z4, y4⟩ := laid (l := 0) (c := 3) (y := 1) (j := false) (q := 1073741824) D4
  have V1 := V1.below ((Below.refl _ w4).alloc (Nat.le_refl _) (mvCells 0 3 1 false 1073741824)) V1.lt
  have V3 := V3.below ((Below.refl _ w4).alloc (Nat.le_refl _) (mvCells 0 3 1 false 1073741824)) V3.lt
  have hbw := below_on HB.out d4
  have HBW := Lib.hid hbw
  have p0 := V1.c0
  have p1 := V1.c1
  have p2 := V1.c2
  have p3 := V1.c3
  have p4 := V1.c4
  have q1 := V3.c1
  have r4 := v4.c4
  unfold mvCells at p0 p1 p2 p3 p4 q1 r4
  clear hb4 D4 d3 d4 v3 v4 V1 V3 hbw z1 z2 z3 z4 y1 y2 y3 y4
  go_wp2
  go_ret
  exact ⟨rfl, HBW.out⟩

end Go.Proofs.Ytaekgempoaoioaa.Ch
