/-
  Package span: the lines of a range, one by one.
-/
import Derived.Test.YtkddnknjjdenhaaSv
import Derived.Test.YtkddnknjjdenhaaRnd
set_option linter.unusedVariables false
set_option linter.unusedSimpArgs false
set_option maxRecDepth 100000
namespace Go.Proofs.Ytkddnknjjdenhaa.So
open Go Go.RowKit Go.Proofs.Ytkddnknjjdenhaa.Vk Go.Proofs.Ytkddnknjjdenhaa.Str Go.Proofs.Ytkddnknjjdenhaa.Ln Go.Proofs.Ytkddnknjjdenhaa.Cl Go.Shelf
attribute [local go_sem] Oper.semAt_some

/-- So many lines with their numbers, from f on. -/
def enr (ls : List ByteArray) (f cnt : Nat) : List (Nat × ByteArray) := (List.range cnt).map fun k => (f + k, lineAt ls (f + k))
theorem enr_length (ls : List ByteArray) (f cnt : Nat) : (enr ls f cnt).length = cnt := by simp [enr]
theorem enr_get (ls : List ByteArray) (f cnt k : Nat) (h : k < cnt) : (enr ls f cnt)[k]? = some (f + k, lineAt ls (f + k)) := by simp [enr, h]
theorem enr_at {ls : List ByteArray} {f cnt : Nat} {pre rest : List (Nat × ByteArray)} {x : Nat × ByteArray} (h : enr ls f cnt = pre ++ x :: rest) : pre.length < cnt ∧ x = (f + pre.length, lineAt ls (f + pre.length)) := by
  have hl : pre.length < (enr ls f cnt).length := by rw [h]; simp
  have h2 : (enr ls f cnt)[pre.length]? = some x := by rw [h]; simp
  rw [enr_length] at hl
  rw [enr_get ls f cnt _ hl] at h2
  exact ⟨hl, by simpa using h2.symm⟩
theorem enr_cut (ls : List ByteArray) (f cnt k : Nat) (hk : k < cnt) : (∃ rest, enr ls f cnt = enr ls f k ++ (f + k, lineAt ls (f + k)) :: rest) ∧ enr ls f (k + 1) = enr ls f k ++ [(f + k, lineAt ls (f + k))] := by
  refine ⟨⟨(enr ls f cnt).drop (k + 1), ?_⟩, by unfold enr; rw [List.range_succ, List.map_append]; rfl⟩
  have hl : k < (enr ls f cnt).length := by rw [enr_length]; exact hk
  have hx : (enr ls f cnt)[k] = (f + k, lineAt ls (f + k)) := by
    have := enr_get ls f cnt k hk
    rw [List.getElem?_eq_getElem hl] at this
    simpa using this
  have ht : enr ls f k = (enr ls f cnt).take k := by unfold enr; rw [← List.map_take, List.take_range]; congr 2; omega
  rw [ht, ← hx, ← List.drop_eq_getElem_cons hl, List.take_append_drop]

theorem enr_step (ls : List ByteArray) (f cnt j : Nat) (h : f ≤ j) (hj : j < f + cnt) : (∃ rest, enr ls f cnt = enr ls f (j - f) ++ (j, lineAt ls j) :: rest) ∧ enr ls f (j + 1 - f) = enr ls f (j - f) ++ [(j, lineAt ls j)] := by
  have hc := enr_cut ls f cnt (j - f) (by omega)
  rw [show f + (j - f) = j by omega, show j - f + 1 = j + 1 - f by omega] at hc
  exact hc

def enc2 (x : Nat × ByteArray) : Array Value := #[.int .i64 x.1, .string x.2]

theorem rows_new (a : Option Addr) (n c : Nat) (f l : Int) (w : World) : Calls Try.prog 75 #[.slice a n c, .int .i64 f, .int .i64 l] w fun e w' =>
    e = .returned (.func (.func 79) #[] #[.pointer (some ⟨w.heap.size + 1, 0, none⟩), .pointer (some ⟨w.heap.size + 2, 0, none⟩), .pointer (some ⟨w.heap.size, 0, none⟩)]) ∧
    ((w.alloc (.cells #[.slice a n c] 22)).alloc (.cells #[.int .i64 f] 3)).alloc (.cells #[.int .i64 l] 3) = w' := by
  go_enter Try.func75, Try.ntmps75
  go_wp2
  go_ret
  exact ⟨rfl, rfl⟩

/-- The iterator has its contract: the rounds may write to the blocks of S, and to new ones. -/
theorem rows_iter {a : Option Addr} {n c : Nat} {ls : List ByteArray} (w : World) (b0 bf bl f cnt : Nat) (h : Ss w a n c ls) (hc : f + cnt ≤ n)
    (h0 : w.cell? ⟨b0, 0, none⟩ = some (.slice a n c)) (h1 : w.cell? ⟨bf, 0, none⟩ = some (.int .i64 f)) (h2 : w.cell? ⟨bl, 0, none⟩ = some (.int .i64 ((f : Int) + cnt - 1)))
    (S : Nat → Prop) (hS0 : ¬ S b0) (hS1 : ¬ S bf) (hS2 : ¬ S bl) (hSa : 0 < n → ∀ b o, a = some ⟨b, o, none⟩ → ¬ S b) :
    Iter Try.prog 79 #[.pointer (some ⟨bf, 0, none⟩), .pointer (some ⟨bl, 0, none⟩), .pointer (some ⟨b0, 0, none⟩)] enc2 0 (fun W W' => Fr (fun k => S k ∨ w.heap.size ≤ k) W W') (enr ls f cnt) w := fun l J Jx W hW hJ hJx hY hj0 => by
  have hn := h.le63
  have hlen := h.length
  have l0 := World.block_lt_of_cell? w _ h0
  have l1 := World.block_lt_of_cell? w _ h1
  have l2 := World.block_lt_of_cell? w _ h2
  have cell : ∀ (V : World) (hF : Fr (fun k => S k ∨ w.heap.size ≤ k) W V) (b o : Nat) (v : Value) (hS : ¬ S b) (hv : w.cell? ⟨b, o, none⟩ = some v), V.cell? ⟨b, o, none⟩ = some v := fun V hF b o v hS hv =>
    hF.cell (cell_later hW hv) (fun e => e.elim hS (fun e => by have : b < w.heap.size := World.block_lt_of_cell? w _ hv; have e' : w.heap.size ≤ b := e; omega))
  have d1 := cell W (Fr.refl _ W) bf 0 _ hS1 h1
  refine callsIn_of_wp Try.func79 rfl trivial ?_ rfl
  simp only [Try.ntmps79, List.size_toArray, List.length_cons, List.length_nil, Nat.reduceAdd, Nat.reduceSub, Array.replicate_succ, Array.replicate_zero, List.push_toArray, List.append_toArray, List.nil_append, List.cons_append]
  gi_wp2
  clear d1
  gi_loopw [5] (fun i wr => ∃ j : Nat, f ≤ j ∧ j ≤ f + cnt ∧ i = .int .i64 j ∧ Hid (J (enr ls f (j - f)) wr) ∧ W.heap.size ≤ wr.heap.size ∧ Hid (Fr (fun k => S k ∨ w.heap.size ≤ k) W wr)) (fun i _ => f + cnt - (RowKit.intOf i).toNat)
  case atStart => exact ⟨f, Nat.le_refl _, by omega, rfl, by rw [Nat.sub_self]; exact hj0, Nat.le_refl _, Fr.refl _ _⟩
  case round =>
    obtain ⟨j, hfj, hk, rfl, hj, hsz, hF⟩ := hrel
    have c0 := cell wr hF.out b0 0 _ hS0 h0
    have c2 := cell wr hF.out bl 0 _ hS2 h2
    by_cases hkn : j < f + cnt
    · obtain ⟨b, o, rfl, hcx, hnc, _⟩ := h.read j (by omega)
      have c3 := cell wr hF.out b _ _ (hSa (by omega) b o rfl) hcx
      have hlt := lineAt_get (ls := ls) (k := j) (by omega)
      rw [← hlt] at c3
      obtain ⟨hr, hnx⟩ := enr_step ls f cnt j hfj hkn
      obtain ⟨fn, tmps, assign, body, hy, hR⟩ := hY (enr ls f (j - f)) (j, lineAt ls j) wr hr (by omega) hj.out
      have HR := Lib.hid hR
      have HN := Lib.hid hnx
      have HRR := Lib.hid hr
      dsimp only [enc2] at hy
      clear hR hcx hlt hr hnx
      gi_wp2
      refine (roundIn_any HR.out).mono ?_
      rintro e W3 ⟨⟨hsz3, _⟩, (⟨rfl, hJ3, hk3⟩ | ⟨rfl, hJx3⟩)⟩
      · have H3 := Lib.hid hJ3
        have HF3 := Lib.hid (hF.out.trans hk3)
        clear hJ3 hk3
        gi_wp2
        go_roundw
        case rel => exact ⟨j + 1, by omega, by omega, by go_num, by rw [HN.out]; exact H3, by omega, HF3⟩
        case measure => simp [RowKit.intOf]; omega
      · have H3 := Lib.hid hJx3
        clear hJx3
        gi_wp2
        refine bodyPost_ret (results_none rfl _ _ _) rfl ?_
        refine ⟨⟨_, rfl⟩, .inr ⟨enr ls f (j - f) ++ [(j, lineAt ls j)], ?_, by simp, H3.out⟩⟩
        obtain ⟨rest, hr⟩ := HRR.out
        exact ⟨rest, by rw [hr]; simp⟩
    · obtain rfl : j = f + cnt := by omega
      have HJ := Lib.hid hj.out
      rw [show f + cnt - f = cnt by omega] at HJ
      clear hj
      gi_wp2
      go_end0
      exact ⟨⟨_, rfl⟩, .inl HJ.out⟩

end Go.Proofs.Ytkddnknjjdenhaa.So
