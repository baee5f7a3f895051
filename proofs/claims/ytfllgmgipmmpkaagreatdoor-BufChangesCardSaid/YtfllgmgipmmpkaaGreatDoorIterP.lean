/-
  The iterators of indexes of package vec have their contracts.
-/
import Derived.Test.YtfllgmgipmmpkaaGreatDoorRf
import Derived.Test.YtfllgmgipmmpkaaGreatDoorVecP
set_option linter.unusedVariables false
set_option linter.unusedSimpArgs false
set_option maxRecDepth 100000
namespace Go.Proofs.YtfllgmgipmmpkaaGreatDoor.VecP
open Go Go.RowKit Go.Proofs.YtfllgmgipmmpkaaGreatDoor.Vk Go.Shelf
attribute [local go_sem] Oper.semAt_some

theorem range_split (n k : Nat) (h : k < n) : ∃ rest, List.range n = List.range k ++ k :: rest := by
  refine ⟨(List.range n).drop (k + 1), ?_⟩
  have h1 : List.range k = (List.range n).take k := by rw [List.take_range]; congr 1; omega
  rw [h1]
  have h2 : (List.range n).drop k = k :: (List.range n).drop (k + 1) := by
    rw [List.drop_eq_getElem_cons (by simpa using h)]; simp
  rw [← h2, List.take_append_drop]

theorem asc_iter (b n : Nat) (w : World) (hc : w.cell? ⟨b, 0, none⟩ = some (.int .i64 n)) (hn : n ≤ 1000000) :
    Iter Tryz.prog 102 #[.pointer (some ⟨b, 0, none⟩)] (fun k : Nat => #[.int .i64 k]) 0 (fun W W' => W'.heap[b]? = W.heap[b]?) (List.range n) w := fun l J Jx W hW hJ hJx hY h0 => by
  have hcW : W.cell? ⟨b, 0, none⟩ = some (.int .i64 n) := (hW.cell (World.block_lt_of_cell? w _ hc)).trans hc
  refine callsIn_of_wp Tryz.func102 rfl trivial ?_ rfl
  simp only [Tryz.ntmps102, List.size_toArray, List.length_cons, List.length_nil, Nat.reduceAdd, Nat.reduceSub, Array.replicate_succ, Array.replicate_zero, List.push_toArray, List.append_toArray, List.nil_append, List.cons_append]
  gi_wp2
  gi_loopw [5] (fun i wr => ∃ k : Nat, k ≤ n ∧ i = .int .i64 k ∧ Hid (J (List.range k) wr) ∧ W.heap.size ≤ wr.heap.size) (fun i _ => n - (RowKit.intOf i).toNat)
  case atStart => exact ⟨0, Nat.zero_le _, rfl, h0, Nat.le_refl _⟩
  case round =>
    obtain ⟨k, hk, rfl, hj, hsz⟩ := hrel
    by_cases hkn : k < n
    · obtain ⟨fn, tmps, assign, body, hy, hR⟩ := hY (List.range k) k wr (range_split n k hkn) (by omega) hj.out
      have HR := Lib.hid hR
      clear hR
      gi_wp2
      refine (roundIn_any HR.out).mono ?_
      rintro e W3 ⟨⟨hsz3, _⟩, (⟨rfl, hJ3, hk3⟩ | ⟨rfl, hJx3⟩)⟩
      · have H3 := Lib.hid hJ3
        clear hJ3 hk3
        gi_wp2
        go_roundw
        case rel => exact ⟨k + 1, by omega, by go_num, by rw [List.range_succ]; exact H3.out, by omega⟩
        case measure => simp [RowKit.intOf]; omega
      · have H3 := Lib.hid hJx3
        clear hJx3
        gi_wp2
        refine bodyPost_ret (results_none rfl _ _ _) rfl ?_
        refine ⟨⟨_, rfl⟩, .inr ⟨List.range k ++ [k], ?_, by simp, H3.out⟩⟩
        obtain ⟨rest, hr⟩ := range_split n k hkn
        exact ⟨rest, by rw [hr]; simp⟩
    · obtain rfl : k = n := by omega
      gi_wp2
      go_end0
      exact ⟨⟨_, rfl⟩, .inl hj.out⟩

theorem asc_new (n : Int) (w : World) : Calls Tryz.prog 83 #[.int .i64 n] w fun e w' => e = .returned (.func (.func 102) #[] #[.pointer (some ⟨w.heap.size, 0, none⟩)]) ∧ w.alloc (.cells #[.int .i64 n] 3) = w' := by
  go_enter Tryz.func83, Tryz.ntmps83
  go_wp2
  go_ret
  exact ⟨rfl, rfl⟩

end Go.Proofs.YtfllgmgipmmpkaaGreatDoor.VecP
