/-
  Motions: is there such a place (the document's Place, may), and the seat's places.
-/
import Derived.Test.YtkddnknjjdenhaaMv
set_option linter.unusedVariables false
set_option linter.unusedSimpArgs false
set_option maxRecDepth 100000
namespace Go.Proofs.Ytkddnknjjdenhaa.Mv
open Go Go.RowKit Go.Proofs.Ytkddnknjjdenhaa.Vk Go.Proofs.Ytkddnknjjdenhaa.Str Go.Proofs.Ytkddnknjjdenhaa.Ln Go.Proofs.Ytkddnknjjdenhaa.Cl
attribute [local go_sem] Oper.semAt_some

theorem plc_nat {ls : List ByteArray} {i k : Nat} (h : i < ls.length) : (Plc ls (i : Int) (k : Int)) ↔ k ≤ (lineAt ls i).size := by
  unfold Plc; rw [Int.toNat_natCast]; omega

theorem place5_any (a : Option Addr) (n c' : Nat) (ls : List ByteArray) (l c : Int) (w : World) (h : Ss w a n c' ls) :
    Calls Try.prog 34 #[.slice a n c', .agg #[.int .i64 l, .int .i64 c]] w fun e w' => e = .returned (.bool (decide (Plc ls l c))) ∧ Below w.heap.size w w' := by
  have hlen := h.length
  have hn := h.le63
  have hbb : ∀ m, Below w.heap.size w ((w.alloc (.cells #[.int .i64 l, .int .i64 c] 24)).drewN m) := fun m => (((Fr.refl (fun _ => False) _).drewN m).below (Nat.le_refl _) (by simp) : Below (w.alloc (.cells #[.int .i64 l, .int .i64 c] 24)).heap.size _ _) |> fun hb => ((Below.refl _ w).alloc (Nat.le_refl _) _).trans (hb.mono (by simp))
  have HB := Lib.hid hbb
  clear hbb
  by_cases h1 : 0 ≤ l
  · by_cases h2 : l < (n : Int)
    · by_cases h3 : 0 ≤ c
      · obtain ⟨i, rfl⟩ : ∃ i : Nat, l = i := ⟨l.toNat, by omega⟩
        obtain ⟨b, o, rfl, hc, hnc, _⟩ := h.read i (by omega)
        have hlt := lineAt_get (ls := ls) (k := i) (by omega)
        rw [← hlt] at hc
        have hd : decide (Plc ls (i : Int) c) = decide (c ≤ ((lineAt ls i).size : Int)) := by rw [decide_eq_decide]; unfold Plc; rw [Int.toNat_natCast]; omega
        rw [hd]
        clear hlt hd h hlen
        generalize lineAt ls i = s at *
        have hc2 := cell_one hc
        have d0 : decide (0 ≤ c) = true := decide_eq_true h3
        have d1 : decide (i < n) = true := decide_eq_true (by omega)
        go_enter Try.func34, Try.ntmps34
        go_wp2
        go_quiet (fail)
        go_wp2
        go_ret
        exact ⟨rfl, HB.out _⟩
      · have hd : decide (Plc ls l c) = false := decide_eq_false fun hp => h3 hp.2.2.1
        rw [hd]
        have d0 : decide (0 ≤ l) = true := decide_eq_true h1
        have d1 : decide (l < (n : Int)) = true := decide_eq_true h2
        have d2 : decide (0 ≤ c) = false := decide_eq_false h3
        clear h hlen hd h1 h2 h3
        go_enter Try.func34, Try.ntmps34
        go_wp2
        go_quiet (fail)
        go_wp2
        go_ret
        exact ⟨rfl, HB.out _⟩
    · have hd : decide (Plc ls l c) = false := decide_eq_false fun hp => h2 (by rw [← hlen]; exact hp.2.1)
      rw [hd]
      have d0 : decide (0 ≤ l) = true := decide_eq_true h1
      have d1 : decide (l < (n : Int)) = false := decide_eq_false h2
      clear h hlen hd h1 h2
      go_enter Try.func34, Try.ntmps34
      go_wp2
      go_quiet (fail)
      go_wp2
      go_ret
      exact ⟨rfl, HB.out _⟩
  · have hd : decide (Plc ls l c) = false := decide_eq_false fun hp => h1 hp.1
    rw [hd]
    have d0 : decide (0 ≤ l) = false := decide_eq_false h1
    clear h hlen hd h1
    go_enter Try.func34, Try.ntmps34
    go_wp2
    go_quiet (fail)
    go_wp2
    go_ret
    exact ⟨rfl, HB.out _⟩

theorem seat_any (a : Option Addr) (n c' : Nat) (ls : List ByteArray) (x y : Int) (w : World) (h : Ss w a n c' ls) (h0 : 0 < n) (hs : ∀ s ∈ ls, s.size ≤ 140737488355328) (hx : 0 ≤ x ∧ x ≤ 65535) (hy : 0 ≤ y ∧ y ≤ 65535) :
    Calls Try.prog 12 #[.slice a n c', .int .u16 x, .int .u16 y] w fun e w' => (∃ i k : Nat, e = .returned (.agg #[.int .i64 i, .int .i64 k]) ∧ i < n ∧ k ≤ (lineAt ls i).size) ∧ Below w.heap.size w w' := by
  have hlen := h.length
  have hn := h.le63
  obtain ⟨l, hl, hln⟩ : ∃ l : Nat, x.tmod n = (l : Int) ∧ l < n := by
    have h1 := Int.tmod_lt_of_pos x (b := (n : Int)) (by omega)
    have h2 := Int.tmod_nonneg (n : Int) hx.1
    exact ⟨(x.tmod n).toNat, by omega, by omega⟩
  obtain ⟨b, o, rfl, hc, hnc, _⟩ := h.read l (by omega)
  have hlt := lineAt_get (ls := ls) (k := l) (by omega)
  have hsz := hs (ls[l]'(by omega)) (List.getElem_mem (by omega))
  rw [← hlt] at hc hsz
  obtain ⟨st, hst⟩ : ∃ st, st = lineAt ls l := ⟨_, rfl⟩
  rw [← hst] at hc hsz
  obtain ⟨m, hm, hmn⟩ : ∃ m : Nat, y.tmod ((st.size : Int) + 1) = (m : Int) ∧ m ≤ st.size := by
    have h1 := Int.tmod_lt_of_pos y (b := (st.size : Int) + 1) (by omega)
    have h2 := Int.tmod_nonneg ((st.size : Int) + 1) hy.1
    exact ⟨(y.tmod ((st.size : Int) + 1)).toNat, by omega, by omega⟩
  have hP : m ≤ (lineAt ls l).size := by rw [← hst]; exact hmn
  have hw1 : IntKind.i64.wrap x = x := by rw [IntKind.wrap_i64]; omega
  have hw2 : IntKind.i64.wrap y = y := by rw [IntKind.wrap_i64]; omega
  have hw3 : IntKind.i64.wrap ((st.size : Int) + 1) = (st.size : Int) + 1 := by rw [IntKind.wrap_i64]; omega
  have hw4 : IntKind.i64.wrap (l : Int) = (l : Int) := by rw [IntKind.wrap_i64]; omega
  have hw5 : IntKind.i64.wrap (m : Int) = (m : Int) := by rw [IntKind.wrap_i64]; omega
  have hc2 := cell_one hc
  have HP := Lib.hid hP
  clear h hs hst hlt hP
  go_enter Try.func12, Try.ntmps12
  go_wp2
  exact bodyPost_ret (results_cell_row (P := Try.prog) rfl _ _ w.heap.size _ #[.int .i64 (l : Int), .int .i64 (m : Int)] _ _ rfl (heap_alloc_new w _) Try.underlying24 rfl (by kernel_rfl)) rfl ⟨⟨l, m, rfl, hln, HP.out⟩, (Below.refl _ w).alloc (Nat.le_refl _) _⟩

end Go.Proofs.Ytkddnknjjdenhaa.Mv
