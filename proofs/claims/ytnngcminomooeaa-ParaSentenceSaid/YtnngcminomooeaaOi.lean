/-
  Is a place a byte's (or an empty line's column 0): the package's inside, the document's on.
-/
import Derived.Test.YtnngcminomooeaaOk
set_option linter.unusedVariables false
set_option linter.unusedSimpArgs false
set_option maxRecDepth 100000
namespace Go.Proofs.Ytnngcminomooeaa.Wo
open Go Go.RowKit Go.Proofs.Ytnngcminomooeaa.Vk Go.Proofs.Ytnngcminomooeaa.Str Go.Proofs.Ytnngcminomooeaa.Ln Go.Proofs.Ytnngcminomooeaa.Cl Go.Proofs.Ytnngcminomooeaa.Mv
attribute [local go_sem] Oper.semAt_some

/-- A byte's place, or an empty line's. -/
def On (ls : List ByteArray) (l c : Int) : Prop := 0 ≤ l ∧ l < ls.length ∧ 0 ≤ c ∧ (c < (lineAt ls l.toNat).size ∨ c = 0 ∧ (lineAt ls l.toNat).size = 0)
instance (ls : List ByteArray) (l c : Int) : Decidable (On ls l c) := by unfold On; infer_instance
theorem On.nat {ls : List ByteArray} {l c : Int} (h : On ls l c) : ∃ i k : Nat, l = i ∧ c = k ∧ i < ls.length ∧ (k < (lineAt ls i).size ∨ k = 0 ∧ (lineAt ls i).size = 0) := by
  obtain ⟨h1, h2, h3, h4⟩ := h
  exact ⟨l.toNat, c.toNat, by omega, by omega, by omega, by omega⟩
theorem On.of {ls : List ByteArray} {i k : Nat} (h : i < ls.length) (hk : k < (lineAt ls i).size ∨ k = 0 ∧ (lineAt ls i).size = 0) : On ls i k :=
  ⟨by omega, by omega, by omega, by rw [Int.toNat_natCast]; omega⟩
theorem On.plc {ls : List ByteArray} {l c : Int} (h : On ls l c) : Plc ls l c := ⟨h.1, h.2.1, h.2.2.1, by have := h.2.2.2; omega⟩
theorem on_clamp {ls : List ByteArray} {l c : Int} (h0 : 0 < ls.length) : (decide ((clL ls l : Int) = l) && decide ((clC ls l c false : Int) = c)) = decide (On ls l c) := by
  have h1 : ((clL ls l : Nat) : Int) = min (max l 0) ((ls.length : Int) - 1) := (cl_cast l h0).symm
  by_cases e1 : (clL ls l : Int) = l
  · have hl : clL ls l = l.toNat := by omega
    have hc : clC ls l c false = cl ((lineAt ls l.toNat).size - 1 + 1) c := by unfold clC; rw [hl]; rfl
    have h2 := cl_cast (n := (lineAt ls l.toNat).size - 1 + 1) c (by omega)
    rw [decide_eq_true e1, Bool.true_and, hc]
    refine decide_eq_decide.2 ?_
    unfold On
    omega
  · rw [decide_eq_false e1, Bool.false_and]
    refine (decide_eq_false ?_).symm
    unfold On
    omega

set_option maxHeartbeats 4000000 in
theorem on_any (a : Option Addr) (n c' : Nat) (ls : List ByteArray) (l c nn : Int) (w : World) (h : Ss w a n c' ls) :
    Calls Try.prog 27 #[.slice a n c', .agg #[.int .i64 l, .int .i64 c], .int .i64 nn] w fun e w' => e = .returned (.bool (decide (On ls l c ∧ 1 ≤ nn))) ∧ Below w.heap.size w w' := by
  have hlen := h.length
  have hn63 := h.le63
  obtain ⟨X, hX⟩ : ∃ X, X = w.alloc (.cells #[.int .i64 l, .int .i64 c] 36) := ⟨_, rfl⟩
  have hp : PosAt X w.heap.size l c := by rw [hX]; exact PosAt.new _ _ _
  have hb : Below w.heap.size w X := by rw [hX]; exact (Below.refl _ w).alloc (Nat.le_refl _) _
  have f0 := fun z : Gr X => z.cell hp.c0
  have f1 := fun z : Gr X => z.cell hp.c1
  have HX := Lib.hid hX
  have hpl := fun z : Gr X => place5_any a n c' ls l c z.W (SrcV.below h (hb.trans (z.below.mono hb.size)))
  by_cases hP : Plc ls l c
  · simp only [decide_eq_true hP] at hpl
    by_cases hn1 : 1 ≤ nn
    · have d1 : decide (1 ≤ nn) = true := decide_eq_true hn1
      obtain ⟨i, k, rfl, rfl, hi, hk⟩ := hP.nat
      obtain ⟨g, o, rfl, hcx, hnc⟩ := h.read i (by omega)
      have hlt := lineAt_get (ls := ls) (k := i) hi
      have hcx := cell_later hb hcx
      rw [← hlt] at hcx
      have f2 := fun z : Gr X => z.cell hcx
      have b1 : (i : Int) < (n : Int) := by omega
      by_cases hks : k < (lineAt ls i).size
      · have hv : decide (On ls i k ∧ 1 ≤ nn) = true := decide_eq_true ⟨On.of hi (.inl hks), hn1⟩
        rw [hv]
        have e0 : decide (k < (lineAt ls i).size) = true := decide_eq_true hks
        have e1 : decide ((k : Int) < ((lineAt ls i).size : Int)) = true := decide_eq_true (by omega)
        generalize lineAt ls i = st at *
        clear hX hp h hv hcx hlt hP
        go_enter Try.func27, Try.ntmps27
        go_upto_region 1 with fail
        rw [← HX.out]
        refine wp_region_grow (by kernel_rfl) (by kernel_rfl) ?_
        repeat (go_big_quiet_step (first | (go_at_call 35; exact Calls.grow_of (hpl _))))
        refine wpQuiet_nil ?_
        rintro V ⟨⟨_, hbV⟩, rfl⟩
        clear f0 f1 f2 hpl
        go_wp2
        go_ret
        exact ⟨rfl, hb.trans (hbV.mono hb.size)⟩
      · have e0 : decide (k < (lineAt ls i).size) = false := decide_eq_false hks
        have e1 : decide ((k : Int) < ((lineAt ls i).size : Int)) = false := decide_eq_false (by omega)
        by_cases hz : (lineAt ls i).size = 0
        · have hv : decide (On ls i k ∧ 1 ≤ nn) = true := decide_eq_true ⟨On.of hi (.inr ⟨by omega, hz⟩), hn1⟩
          rw [hv]
          have e2 := empty_of_zero hz
          clear hz
          generalize lineAt ls i = st at *
          clear hX hp h hv hcx hlt hP
          go_enter Try.func27, Try.ntmps27
          go_upto_region 1 with fail
          rw [← HX.out]
          refine wp_region_grow (by kernel_rfl) (by kernel_rfl) ?_
          repeat (go_big_quiet_step (first | (go_at_call 35; exact Calls.grow_of (hpl _))))
          refine wpQuiet_nil ?_
          rintro V ⟨⟨_, hbV⟩, rfl⟩
          clear f0 f1 f2 hpl
          go_wp2
          go_ret
          exact ⟨rfl, hb.trans (hbV.mono hb.size)⟩
        · have hv : decide (On ls i k ∧ 1 ≤ nn) = false := decide_eq_false (fun h => by have := h.1.2.2.2; rw [Int.toNat_natCast] at this; omega)
          rw [hv]
          have e2 := empty_of_pos (x := lineAt ls i) (by omega)
          generalize lineAt ls i = st at *
          clear hX hp h hv hcx hlt hP
          go_enter Try.func27, Try.ntmps27
          go_upto_region 1 with fail
          rw [← HX.out]
          refine wp_region_grow (by kernel_rfl) (by kernel_rfl) ?_
          repeat (go_big_quiet_step (first | (go_at_call 35; exact Calls.grow_of (hpl _))))
          refine wpQuiet_nil ?_
          rintro V ⟨⟨_, hbV⟩, rfl⟩
          clear f0 f1 f2 hpl
          go_wp2
          go_ret
          exact ⟨rfl, hb.trans (hbV.mono hb.size)⟩
    · have hv : decide (On ls l c ∧ 1 ≤ nn) = false := decide_eq_false (fun h => hn1 h.2)
      rw [hv]
      have d1 : decide (1 ≤ nn) = false := decide_eq_false hn1
      clear hX hp h hv hP
      go_enter Try.func27, Try.ntmps27
      go_upto_region 1 with fail
      rw [← HX.out]
      refine wp_region_grow (by kernel_rfl) (by kernel_rfl) ?_
      repeat (go_big_quiet_step (first | (go_at_call 35; exact Calls.grow_of (hpl _))))
      refine wpQuiet_nil ?_
      rintro V ⟨⟨_, hbV⟩, rfl⟩
      clear f0 f1 hpl
      go_wp2
      go_ret
      exact ⟨rfl, hb.trans (hbV.mono hb.size)⟩
  · simp only [decide_eq_false hP] at hpl
    have hv : decide (On ls l c ∧ 1 ≤ nn) = false := decide_eq_false (fun h => hP h.1.plc)
    rw [hv]
    clear hX hp h hv hP
    go_enter Try.func27, Try.ntmps27
    go_upto_region 1 with fail
    rw [← HX.out]
    refine wp_region_grow (by kernel_rfl) (by kernel_rfl) ?_
    repeat (go_big_quiet_step (first | (go_at_call 35; exact Calls.grow_of (hpl _))))
    refine wpQuiet_nil ?_
    rintro V ⟨⟨_, hbV⟩, rfl⟩
    clear f0 f1 hpl
    go_wp2
    go_ret
    exact ⟨rfl, hb.trans (hbV.mono hb.size)⟩
end Go.Proofs.Ytnngcminomooeaa.Wo
