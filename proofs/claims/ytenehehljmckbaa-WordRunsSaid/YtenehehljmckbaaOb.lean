/-
  Package wordobj: the runs of a line, one by one (Runs).
-/
import Derived.Test.YtenehehljmckbaaOr
set_option linter.unusedVariables false
set_option linter.unusedSimpArgs false
set_option maxRecDepth 100000
namespace Go.Proofs.Ytenehehljmckbaa.Wo
open Go Go.RowKit Go.Proofs.Ytenehehljmckbaa.Vk Go.Proofs.Ytenehehljmckbaa.Str Go.Proofs.Ytenehehljmckbaa.Ln Go.Proofs.Ytenehehljmckbaa.Cl Go.Proofs.Ytenehehljmckbaa.Mv
attribute [local go_sem] Oper.semAt_some

def encr (x : RN) : Array Value := #[.int .i64 x.1, .int .i64 x.2]
set_option maxHeartbeats 4000000 in
theorem runs_iter {s : ByteArray} {b : Bool} (S : Nat → Prop) (w : World) (bl bg : Nat) (hs : s.size ≤ 140737488355328)
    (h0 : w.cell? ⟨bl, 0, none⟩ = some (.string s)) (h1 : w.cell? ⟨bg, 0, none⟩ = some (.bool b)) (hSl : ¬ S bl) (hSg : ¬ S bg) :
    Iter Try.prog 21 #[.pointer (some ⟨bl, 0, none⟩), .pointer (some ⟨bg, 0, none⟩)] encr 0 (Fr S) (rs s b) w := fun l J Jx W hW hJ hJx hY hj0 => by
  have HY := Lib.hid hY
  have HJ0 := Lib.hid hj0
  have d0 := cell_later hW h0
  have d1 := cell_later hW h1
  clear hY hj0 h0 h1
  refine callsIn_of_wp Try.func21 rfl trivial ?_ rfl
  simp only [Try.ntmps21, List.size_toArray, List.length_cons, List.length_nil, Nat.reduceAdd, Nat.reduceSub, Array.replicate_succ, Array.replicate_zero, List.push_toArray, List.append_toArray, List.nil_append, List.cons_append]
  gi_wp2
  have D0 := Lib.hid (And.intro d0 d1)
  clear d0 d1
  gi_loopw [4] (fun i wr => ∃ f : Nat, i = .int .i64 f ∧ Hid (f ≤ s.size ∧ (f = s.size ∨ Bd s b f) ∧ J (pr s b f) wr ∧ W.heap.size ≤ wr.heap.size ∧ Fr S W wr)) (fun i _ => s.size - (RowKit.intOf i).toNat)
  case atStart => exact ⟨0, rfl, Nat.zero_le _, .inr (.inl rfl), HJ0.out, Nat.le_refl _, Fr.refl _ _⟩
  case round =>
    obtain ⟨f, rfl, hR⟩ := hrel
    have c0 := Fr.cell hR.out.2.2.2.2 D0.out.1 hSl
    have c1 := Fr.cell hR.out.2.2.2.2 D0.out.2 hSg
    by_cases hfn : f < s.size
    · have hfi := finish_any s b f wr hfn hs
      have b0 : decide (f < s.size) = true := decide_eq_true hfn
      have b1 : (f : Int) < (s.size : Int) := by omega
      gi_wp2_with fail
      refine ⟨trivial, ?_⟩
      refine (callsIn_wide.2 hfi).mono ?_
      rintro e V ⟨t, rfl, hN, hb⟩
      obtain ⟨hfs, hbd, hJf, hsz, hF⟩ := hR.out
      have hbd : Bd s b f := by
        rcases hbd with e | e
        · omega
        · exact e
      obtain ⟨hN1, hN2, hN3, hN4⟩ := hN
      obtain ⟨g1, g2, r, g3⟩ := rs_next hbd hN1 hN2 hN3 hN4
      have hJV : J (pr s b f) V := hJ _ _ _ none hJf (grown_below hb) (fun _ e => by cases e)
      have hFV : Fr S W V := hF.trans (Fr.ofBelow hb _)
      have hszV : W.heap.size ≤ V.heap.size := Nat.le_trans hsz hb.size
      obtain ⟨fn, tmps, assign, body, hy, hRd⟩ := HY.out _ (f, t) V ⟨r, g3⟩ (by omega) hJV
      have HRD := Lib.hid hRd
      have HV := Lib.hid (And.intro hFV hszV)
      have HP := Lib.hid (And.intro g1 (And.intro g2 g3))
      have HN2 := Lib.hid (And.intro hN1 hN2)
      dsimp only [encr] at hy
      clear hfi hRd hFV hszV g1 g2 g3 hN1 hN2 hN3 hN4 hJV hJf hF hbd hfs hsz hb c0 c1 b0 b1
      gi_wp2
      refine (roundIn_any HRD.out).mono ?_
      rintro e W5 ⟨⟨hsz5, _⟩, (⟨rfl, hJ5, hk5⟩ | ⟨rfl, hJx5⟩)⟩
      · have H5 := Lib.hid (And.intro hJ5 (And.intro hk5 hsz5))
        clear hJ5 hk5 hy hsz5
        gi_wp2
        go_roundw
        case rel =>
          refine ⟨t, rfl, HN2.out.2, HP.out.2.1, ?_, Nat.le_trans HV.out.2 H5.out.2.2, HV.out.1.trans H5.out.2.1⟩
          rw [HP.out.1]; exact H5.out.1
        case measure => have := HN2.out; simp [RowKit.intOf]; omega
      · have H5 := Lib.hid hJx5
        clear hJx5 hy
        gi_wp2
        refine bodyPost_ret (results_none rfl _ _ _) rfl ?_
        refine ⟨⟨_, rfl⟩, .inr ⟨_, ?_, ?_, H5.out⟩⟩
        · exact ⟨r, by rw [HP.out.2.2]; simp⟩
        · simp
    · obtain rfl : f = s.size := by have := hR.out.1; omega
      have b0 : decide (s.size < s.size) = false := decide_eq_false (by omega)
      gi_wp2
      go_end0
      exact ⟨⟨_, rfl⟩, .inl hR.out.2.2.1⟩

theorem runs_new (s : ByteArray) (b : Bool) (w : World) : Calls Try.prog 9 #[.string s, .bool b] w fun e w' =>
    e = .returned (.func (.func 21) #[] #[.pointer (some ⟨w.heap.size, 0, none⟩), .pointer (some ⟨w.heap.size + 1, 0, none⟩)]) ∧ (w.alloc (.cells #[.string s] 9)).alloc (.cells #[.bool b] 4) = w' := by
  go_enter Try.func9, Try.ntmps9
  go_wp2
  go_ret
  exact ⟨by simp, rfl⟩
/-- A function value that tells a list of runs. -/
def Tells (w : World) (v : Value) (m : Nat) (xs : List RN) : Prop :=
  ∃ g lb, v = .func (.func g) #[] lb ∧ (∀ args w', (callFunc g args).run Try.prog w' = .ok (.enter g args) w') ∧ Iter Try.prog g lb encr m (Kn w) xs w
theorem runs_tells (s : ByteArray) (b : Bool) (w : World) (hs : s.size ≤ 140737488355328) : Calls Try.prog 9 #[.string s, .bool b] w fun e w' =>
    ∃ v, e = .returned v ∧ Tells w' v 0 (rs s b) ∧ Below w.heap.size w w' := by
  refine (runs_new s b w).mono ?_
  rintro e w' ⟨rfl, rfl⟩
  have hb := two_below w (.cells #[.string s] 9) (.cells #[.bool b] 4)
  refine ⟨_, rfl, ⟨_, _, rfl, enters_of Try.func21 (by kernel_rfl) rfl, ?_⟩, hb⟩
  refine runs_iter _ _ _ _ hs ?_ ?_ (by simp; omega) (by simp)
  · exact cell_one ((cell_of_row _ _ 0 _ _ _ (heap_alloc_new w _)).trans (by simp)) _
  · exact (cell_of_row _ _ 0 _ _ _ (two_new w _ _)).trans (by simp)
/-- .. where the caller's own blocks M may be written between. -/
theorem runs_keep (s : ByteArray) (b : Bool) (M : Nat → Prop) (w : World) (hs : s.size ≤ 140737488355328) (hM : ∀ k, M k → k < w.heap.size) : Calls Try.prog 9 #[.string s, .bool b] w fun e w' =>
    ∃ g lb, e = .returned (.func (.func g) #[] lb) ∧ (∀ args w', (callFunc g args).run Try.prog w' = .ok (.enter g args) w') ∧ Iter Try.prog g lb encr 0 (Fr (fun k => M k ∨ w'.heap.size ≤ k)) (rs s b) w' ∧ Below w.heap.size w w' ∧ w'.heap.size = w.heap.size + 2 := by
  refine (runs_new s b w).mono ?_
  rintro e w' ⟨rfl, rfl⟩
  have hb := two_below w (.cells #[.string s] 9) (.cells #[.bool b] 4)
  refine ⟨_, _, rfl, enters_of Try.func21 (by kernel_rfl) rfl, ?_, hb, by simp⟩
  refine runs_iter _ _ _ _ hs ?_ ?_ ?_ ?_
  · exact cell_one ((cell_of_row _ _ 0 _ _ _ (heap_alloc_new w _)).trans (by simp)) _
  · exact (cell_of_row _ _ 0 _ _ _ (two_new w _ _)).trans (by simp)
  · rintro (hh | hh)
    · have := hM _ hh; omega
    · simp at hh <;> omega
  · rintro (hh | hh)
    · have := hM _ hh; omega
    · simp at hh <;> omega
end Go.Proofs.Ytenehehljmckbaa.Wo
