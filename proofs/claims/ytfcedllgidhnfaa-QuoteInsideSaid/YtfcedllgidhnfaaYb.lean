/-
  Package quoteobj: the pairs of a line, one by one (Pairs).
-/
import Derived.Test.YtfcedllgidhnfaaYl
import Derived.Test.YtfcedllgidhnfaaOb
set_option linter.unusedVariables false
set_option linter.unusedSimpArgs false
set_option maxRecDepth 100000
namespace Go.Proofs.Ytfcedllgidhnfaa.Wo
open Go Go.RowKit Go.Proofs.Ytfcedllgidhnfaa.Vk Go.Proofs.Ytfcedllgidhnfaa.Str Go.Proofs.Ytfcedllgidhnfaa.Ln Go.Proofs.Ytfcedllgidhnfaa.Cl Go.Proofs.Ytfcedllgidhnfaa.Mv
attribute [local go_sem] Oper.semAt_some

theorem byte_is {s : ByteArray} {j : Nat} {q : Int} (hj : j < s.size) (h : bt s j = q) : (((s[j]'hj).toNat : Int) != q) = false := by rw [← h, bt_at s j hj]; simp
theorem byte_isnt {s : ByteArray} {j : Nat} {q : Int} (hj : j < s.size) (h : bt s j ≠ q) : (((s[j]'hj).toNat : Int) != q) = true := by rw [← bt_at s j hj] at h; simpa using h
set_option maxHeartbeats 4000000 in
theorem pairs_iter {s : ByteArray} {q : Int} (S : Nat → Prop) (w : World) (bl bg : Nat) (hs : s.size ≤ 140737488355328)
    (h0 : w.cell? ⟨bl, 0, none⟩ = some (.string s)) (h1 : w.cell? ⟨bg, 0, none⟩ = some (.int .u8 q)) (hSl : ¬ S bl) (hSg : ¬ S bg) :
    Iter Try.prog 16 #[.pointer (some ⟨bl, 0, none⟩), .pointer (some ⟨bg, 0, none⟩)] encr 0 (Fr S) (qs s q) w := fun l J Jx W hW hJ hJx hY hj0 => by
  have hmx : Try.prog.follows .mixedOrders = true := by kernel_rfl
  have HY := Lib.hid hY
  have HJ0 := Lib.hid hj0
  have d0 := cell_later hW h0
  have d1 := cell_later hW h1
  clear hY hj0 h0 h1
  refine callsIn_of_wp Try.func16 rfl trivial ?_ rfl
  simp only [Try.ntmps16, List.size_toArray, List.length_cons, List.length_nil, Nat.reduceAdd, Nat.reduceSub, Array.replicate_succ, Array.replicate_zero, List.push_toArray, List.append_toArray, List.nil_append, List.cons_append]
  gi_wp2
  have D0 := Lib.hid (And.intro d0 d1)
  clear d0 d1
  gi_loopw [4, 5, 9] (fun a b i wr => ∃ (k f : Nat) (o : Bool), a = .int .i64 f ∧ b = .bool o ∧ i = .int .i64 k ∧ Hid (k ≤ s.size ∧ (pq s q k).2 = (if o = true then some f else none) ∧ J (pq s q k).1 wr ∧ W.heap.size ≤ wr.heap.size ∧ Fr S W wr)) (fun a b i _ => s.size - (RowKit.intOf i).toNat)
  case atStart => exact ⟨0, 0, false, rfl, rfl, rfl, Nat.zero_le _, rfl, HJ0.out, Nat.le_refl _, Fr.refl _ _⟩
  case round =>
    obtain ⟨k, f, o, rfl, rfl, rfl, hR⟩ := hrel
    by_cases hkn : k < s.size
    · have b0 : decide (k < s.size) = true := decide_eq_true hkn
      have b1 : (k : Int) < (s.size : Int) := by omega
      have HD : Hid (J (pq s q k).1 wr.drew ∧ W.heap.size ≤ wr.drew.heap.size ∧ Fr S W wr.drew) :=
        ⟨hJ _ _ _ none hR.out.2.2.1 (grown_below ((Below.refl _ wr).drew)) (fun _ e => by cases e), hR.out.2.2.2.1, hR.out.2.2.2.2.drew⟩
      have c0 := Fr.cell hR.out.2.2.2.2 D0.out.1 hSl
      have c1 := Fr.cell hR.out.2.2.2.2 D0.out.2 hSg
      have HW := Lib.hid hR.out.2.1
      obtain ⟨M, hM⟩ : ∃ M, M = k + 1 := ⟨_, rfl⟩
      have hwM : IntKind.i64.wrap ((k : Int) + 1) = (M : Int) := by rw [IntKind.wrap_i64]; omega
      have HM := Lib.hid hM
      clear hM hR
      by_cases hb : bt s k = q
      · have e1 := byte_is hkn hb
        cases o
        · have HP := Lib.hid (pq_open hb (by simpa using HW.out))
          clear hb
          gi_wp2
          gi_region
          gi_wp2_with (with_reducible refine And.intro (fun _ hh => by cases hh) ?_)
          go_roundw
          case rel =>
            refine ⟨M, k, true, rfl, rfl, rfl, by have := HM.out; omega, ?_⟩
            rw [HM.out, HP.out]
            exact ⟨rfl, HD.out⟩
          case measure => have := HM.out; simp [RowKit.intOf]; omega
        · have hw : (pq s q k).2 = some f := by simpa using HW.out
          have HP := Lib.hid (pq_close hb hw)
          obtain ⟨r, hr⟩ := qs_close hkn hb hw
          obtain ⟨fn, tmps, assign, body, hy, hRd⟩ := HY.out _ (f, k) wr.drew ⟨r, hr⟩ (by have := HD.out.2.1; omega) HD.out.1
          have HRD := Lib.hid hRd
          have HRR := Lib.hid hr
          dsimp only [encr] at hy
          clear hRd hr hb hw
          gi_wp2
          gi_region
          gi_wp2
          refine (roundIn_any HRD.out).mono ?_
          rintro e W5 ⟨⟨hsz5, _⟩, (⟨rfl, hJ5, hk5⟩ | ⟨rfl, hJx5⟩)⟩
          · have hz5 := HD.out.2.1
            have H5 := Lib.hid (And.intro hJ5 (And.intro (Nat.le_trans hz5 hsz5) (HD.out.2.2.trans hk5)))
            clear hJ5 hk5 hy hsz5 hz5
            gi_wp2
            go_roundw
            case rel =>
              refine ⟨M, k, false, rfl, rfl, rfl, by have := HM.out; omega, ?_⟩
              rw [HM.out, HP.out]
              exact ⟨rfl, H5.out⟩
            case measure => have := HM.out; simp [RowKit.intOf]; omega
          · have H5 := Lib.hid hJx5
            clear hJx5 hy
            gi_wp2
            refine bodyPost_ret (results_none rfl _ _ _) rfl ?_
            refine ⟨⟨_, rfl⟩, .inr ⟨_, ?_, ?_, H5.out⟩⟩
            · exact ⟨r, by rw [HRR.out]; simp⟩
            · simp
      · have e1 := byte_isnt hkn hb
        have HP := Lib.hid (pq_no hb)
        clear hb
        gi_wp2
        gi_region
        gi_wp2
        go_roundw
        case rel =>
          refine ⟨M, f, o, rfl, rfl, rfl, by have := HM.out; omega, ?_⟩
          rw [HM.out, HP.out]
          exact ⟨HW.out, HD.out⟩
        case measure => have := HM.out; simp [RowKit.intOf]; omega
    · obtain rfl : k = s.size := by have := hR.out.1; omega
      have b0 : decide (s.size < s.size) = false := decide_eq_false (by omega)
      gi_wp2
      go_end0
      exact ⟨⟨_, rfl⟩, .inl hR.out.2.2.1⟩

theorem pairs_new (s : ByteArray) (q : Int) (w : World) : Calls Try.prog 8 #[.string s, .int .u8 q] w fun e w' =>
    e = .returned (.func (.func 16) #[] #[.pointer (some ⟨w.heap.size, 0, none⟩), .pointer (some ⟨w.heap.size + 1, 0, none⟩)]) ∧ (w.alloc (.cells #[.string s] 9)).alloc (.cells #[.int .u8 q] 5) = w' := by
  go_enter Try.func8, Try.ntmps8
  go_wp2
  go_ret
  exact ⟨by simp, rfl⟩
theorem pairs_tells (s : ByteArray) (q : Int) (w : World) (hs : s.size ≤ 140737488355328) : Calls Try.prog 8 #[.string s, .int .u8 q] w fun e w' =>
    ∃ v, e = .returned v ∧ Tells w' v 0 (qs s q) ∧ Below w.heap.size w w' := by
  refine (pairs_new s q w).mono ?_
  rintro e w' ⟨rfl, rfl⟩
  have hb := two_below w (.cells #[.string s] 9) (.cells #[.int .u8 q] 5)
  refine ⟨_, rfl, ⟨_, _, rfl, enters_of Try.func16 (by kernel_rfl) rfl, ?_⟩, hb⟩
  refine pairs_iter _ _ _ _ hs ?_ ?_ (by simp; omega) (by simp)
  · exact cell_one ((cell_of_row _ _ 0 _ _ _ (heap_alloc_new w _)).trans (by simp)) _
  · exact (cell_of_row _ _ 0 _ _ _ (two_new w _ _)).trans (by simp)
/-- .. where the caller's own blocks M may be written between. -/
theorem pairs_keep (s : ByteArray) (q : Int) (M : Nat → Prop) (w : World) (hs : s.size ≤ 140737488355328) (hM : ∀ k, M k → k < w.heap.size) : Calls Try.prog 8 #[.string s, .int .u8 q] w fun e w' =>
    ∃ g lb, e = .returned (.func (.func g) #[] lb) ∧ (∀ args w', (callFunc g args).run Try.prog w' = .ok (.enter g args) w') ∧ Iter Try.prog g lb encr 0 (Fr (fun k => M k ∨ w'.heap.size ≤ k)) (qs s q) w' ∧ Below w.heap.size w w' ∧ w'.heap.size = w.heap.size + 2 := by
  refine (pairs_new s q w).mono ?_
  rintro e w' ⟨rfl, rfl⟩
  have hb := two_below w (.cells #[.string s] 9) (.cells #[.int .u8 q] 5)
  refine ⟨_, _, rfl, enters_of Try.func16 (by kernel_rfl) rfl, ?_, hb, by simp⟩
  refine pairs_iter _ _ _ _ hs ?_ ?_ ?_ ?_
  · exact cell_one ((cell_of_row _ _ 0 _ _ _ (heap_alloc_new w _)).trans (by simp)) _
  · exact (cell_of_row _ _ 0 _ _ _ (two_new w _ _)).trans (by simp)
  · rintro (hh | hh)
    · have := hM _ hh; omega
    · simp at hh <;> omega
  · rintro (hh | hh)
    · have := hM _ hh; omega
    · simp at hh <;> omega
end Go.Proofs.Ytfcedllgidhnfaa.Wo
