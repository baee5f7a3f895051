/-
  The seat's places, told.
-/
import Derived.Test.YtkddnknjjdenhaaMp
set_option linter.unusedVariables false
set_option linter.unusedSimpArgs false
set_option maxRecDepth 100000
namespace Go.Proofs.Ytkddnknjjdenhaa.Mv
open Go Go.RowKit Go.Proofs.Ytkddnknjjdenhaa.Vk Go.Proofs.Ytkddnknjjdenhaa.Str Go.Proofs.Ytkddnknjjdenhaa.Ln Go.Proofs.Ytkddnknjjdenhaa.Cl
attribute [local go_sem] Oper.semAt_some

/-- The seat's place, told. -/
def seatL (n : Nat) (x : Int) : Nat := (x.tmod n).toNat
def seatC (ls : List ByteArray) (n : Nat) (x y : Int) : Nat := (y.tmod (((lineAt ls (seatL n x)).size : Int) + 1)).toNat
theorem seat_eq (a : Option Addr) (n c' : Nat) (ls : List ByteArray) (x y : Int) (w : World) (h : Ss w a n c' ls) (h0 : 0 < n) (hs : ∀ s ∈ ls, s.size ≤ 140737488355328) (hx : 0 ≤ x ∧ x ≤ 65535) (hy : 0 ≤ y ∧ y ≤ 65535) :
    Calls Try.prog 12 #[.slice a n c', .int .u16 x, .int .u16 y] w fun e w' => e = .returned (.agg #[.int .i64 (seatL n x), .int .i64 (seatC ls n x y)]) ∧ Below w.heap.size w w' := by
  have hlen := h.length
  have hn := h.le63
  obtain ⟨l, hl, hln, hl0⟩ : ∃ l : Nat, x.tmod n = (l : Int) ∧ l < n ∧ seatL n x = l := by
    have h1 := Int.tmod_lt_of_pos x (b := (n : Int)) (by omega)
    have h2 := Int.tmod_nonneg (n : Int) hx.1
    exact ⟨(x.tmod n).toNat, by omega, by omega, rfl⟩
  obtain ⟨b, o, rfl, hc, hnc, _⟩ := h.read l (by omega)
  have hlt := lineAt_get (ls := ls) (k := l) (by omega)
  have hsz := hs (ls[l]'(by omega)) (List.getElem_mem (by omega))
  rw [← hlt] at hc hsz
  obtain ⟨st, hst⟩ : ∃ st, st = lineAt ls l := ⟨_, rfl⟩
  rw [← hst] at hc hsz
  obtain ⟨m, hm, hmn, hm0⟩ : ∃ m : Nat, y.tmod ((st.size : Int) + 1) = (m : Int) ∧ m ≤ st.size ∧ seatC ls n x y = m := by
    have h1 := Int.tmod_lt_of_pos y (b := (st.size : Int) + 1) (by omega)
    have h2 := Int.tmod_nonneg ((st.size : Int) + 1) hy.1
    exact ⟨(y.tmod ((st.size : Int) + 1)).toNat, by omega, by omega, by unfold seatC; rw [hl0, ← hst]⟩
  rw [hl0, hm0]
  have hw1 : IntKind.i64.wrap x = x := by rw [IntKind.wrap_i64]; omega
  have hw2 : IntKind.i64.wrap y = y := by rw [IntKind.wrap_i64]; omega
  have hw3 : IntKind.i64.wrap ((st.size : Int) + 1) = (st.size : Int) + 1 := by rw [IntKind.wrap_i64]; omega
  have hw4 : IntKind.i64.wrap (l : Int) = (l : Int) := by rw [IntKind.wrap_i64]; omega
  have hw5 : IntKind.i64.wrap (m : Int) = (m : Int) := by rw [IntKind.wrap_i64]; omega
  have hc2 := cell_one hc
  clear h hs hst hlt hl0 hm0
  go_enter Try.func12, Try.ntmps12
  go_wp2
  exact bodyPost_ret (results_cell_row (P := Try.prog) rfl _ _ w.heap.size _ #[.int .i64 (l : Int), .int .i64 (m : Int)] _ _ rfl (heap_alloc_new w _) Try.underlying24 rfl (by kernel_rfl)) rfl ⟨rfl, (Below.refl _ w).alloc (Nat.le_refl _) _⟩


end Go.Proofs.Ytkddnknjjdenhaa.Mv
