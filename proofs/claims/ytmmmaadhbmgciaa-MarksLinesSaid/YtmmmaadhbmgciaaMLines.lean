/-
  The law MarksLines, walked.
-/
import Derived.Test.YtmmmaadhbmgciaaMe
set_option linter.unusedVariables false
set_option linter.unusedSimpArgs false
set_option maxRecDepth 100000
namespace Go.Proofs.Ytmmmaadhbmgciaa.MLines
open Go Go.RowKit Go.Proofs.Ytmmmaadhbmgciaa.Vk Go.Proofs.Ytmmmaadhbmgciaa.Str Go.Proofs.Ytmmmaadhbmgciaa.Ln Go.Proofs.Ytmmmaadhbmgciaa.Cl Go.Proofs.Ytmmmaadhbmgciaa.Ml Go.Proofs.Ytmmmaadhbmgciaa.Mk
attribute [local go_sem] Oper.semAt_some

theorem u8_of {l : Int} (h : (Lit.int .u8 l).wf = true) : 0 ≤ l ∧ l ≤ 255 := by simpa [Lit.wf, show IntKind.u8.min = 0 from rfl, show IntKind.u8.max = 255 from rfl] using h
theorem same_pos (a b : Int) (W : World) : (binOp .eql 37 (.agg #[.int .i64 a, .int .i64 b]) (.agg #[.int .i64 a, .int .i64 b])).run Try.prog W = .ok (.bool true) W := by
  rw [eq_pos]; simp
theorem setk (W : World) (m b : Nat) (l : Int) (h : Mks W m b []) : Calls Try.prog 12 #[.pointer (some ⟨m, 0, none⟩), .int .u8 107, .agg #[.int .i64 l, .int .i64 7]] W fun e w' =>
    e = .returned (.bool true) ∧ Mks w' m b [(107, (l, 7))] ∧ Fr (fun j => j = b) W w' := set_any m b [] 107 l 7 W h (by decide) List.Pairwise.nil (fun _ h => by cases h)
theorem adjk (W : World) (m b : Nat) (l a o n : Int) (h : Mks W m b [(107, (l, 7))]) (hl : 0 ≤ l ∧ l ≤ 255) : Calls Try.prog 14 #[.pointer (some ⟨m, 0, none⟩), .int .i64 a, .int .i64 o, .int .i64 n] W fun e w' =>
    e = .returned (.tuple #[]) ∧ Mks w' m b (adj [(107, (l, 7))] a o n) ∧ Fr (fun j => j = b) W w' := adjust_any m b _ a o n W h (List.pairwise_singleton _ _) (fun x h => by rw [List.mem_singleton] at h; subst h; show 96 ≤ 107 ∧ 107 ≤ 122; decide) (fun x h => by rw [List.mem_singleton] at h; subst h; show -4611686018427387904 ≤ l ∧ l ≤ 4611686018427387904; omega)
theorem getk (W : World) (m b : Nat) (L : ML) (h : Mks W m b L) : Calls Try.prog 16 #[.pointer (some ⟨m, 0, none⟩), .int .u8 107] W fun e w' =>
    e = .returned (.tuple #[.agg #[.int .i64 (lz (lk L 107)).1, .int .i64 (lz (lk L 107)).2], .bool (lk L 107).isSome]) ∧ Below W.heap.size W w' := get_any m b _ 107 W h (by decide)
theorem lk_some {l a o n k : Int} (h : shf l a o n = some k) : lk (adj [(107, (l, 7))] a o n) 107 = some (k, 7) := by
  have : adj [(107, (l, 7))] a o n = [(107, (k, 7))] := by unfold adj; rw [List.filterMap_cons]; unfold one; rw [h]; rfl
  rw [this]; rfl
theorem lk_none {l a o n : Int} (h : shf l a o n = none) : lk (adj [(107, (l, 7))] a o n) 107 = none := by
  have : adj [(107, (l, 7))] a o n = [] := by unfold adj; rw [List.filterMap_cons]; unfold one; rw [h]; rfl
  rw [this]; rfl

theorem walk (l a n : Int) (q : Bool) (w : World) (wl : (Lit.int .u8 l).wf = true) (wa : (Lit.int .u8 a).wf = true) (wn : (Lit.int .u8 n).wf = true) :
    Calls Try.prog 6 #[.int .u8 l, .int .u8 a, .int .u8 n, .bool q] w fun e w' => e = .returned (.bool true) ∧ Below w.heap.size w w' := by
  have hk := known_any w
  have hl := u8_of wl
  have ha := u8_of wa
  have hn := u8_of wn
  clear wl wa wn
  have g1 : IntKind.i64.wrap l = l := by rw [IntKind.wrap_i64]; omega
  have g2 : IntKind.i64.wrap a = a := by rw [IntKind.wrap_i64]; omega
  have g3 : IntKind.i64.wrap n = n := by rw [IntKind.wrap_i64]; omega
  have g4 : IntKind.i64.wrap (l + n) = l + n := by rw [IntKind.wrap_i64]; omega
  have g5 : IntKind.i64.wrap (a + n) = a + n := by rw [IntKind.wrap_i64]; omega
  have g6 : IntKind.i64.wrap (l - n) = l - n := by rw [IntKind.wrap_i64]; omega
  cases q with
  | true =>
    by_cases h : a ≤ l
    · have hsh : shf l a (0) (n) = some (l + n) := (shf_on (by omega) (by omega)).trans (by rw [show l - 0 + n = l + n by omega])
      have hlk := lk_some hsh
      clear hsh
      go_enter Try.func6, Try.ntmps6
      go_wp2_with fail
      refine hk.mono ?_
      rintro e w1 ⟨rfl, hb1⟩
      have HB := Lib.hid hb1
      clear hk hb1
      go_wp2_with fail
      refine (new_any _).mono ?_
      rintro e w2 ⟨rfl, hm2, hb2⟩
      have hsz := HB.out.size
      have HB := Lib.hid (below_on HB.out hb2)
      clear hb2
      go_wp2_with fail
      refine (setk _ _ _ l hm2).mono ?_
      rintro e w3 ⟨rfl, hm3, hf3⟩
      have HB := Lib.hid (HB.out.trans (hf3.below HB.out.size (fun k e => by omega)))
      clear hm2 hf3
      go_wp2_with fail
      refine (adjk _ _ _ l a (0) (n) hm3 hl).mono ?_
      rintro e w4 ⟨rfl, hm4, hf4⟩
      have HB := Lib.hid (HB.out.trans (hf4.below HB.out.size (fun k e => by omega)))
      clear hm3 hf4
      go_wp2_with fail
      have hg := getk _ _ _ _ hm4
      rw [hlk] at hg
      refine hg.mono ?_
      rintro e w5 ⟨rfl, hb5⟩
      have HB := Lib.hid (HB.out.trans (hb5.mono HB.out.size))
      clear hm4 hb5 hlk hg
      have hep := same_pos (l + n) 7 (w5.alloc (.cells #[.int .i64 (l + n), .int .i64 7] 37))
      simp only [lz, Option.getD_some, Option.getD_none, Option.isSome_some, Option.isSome_none]
      go_wp2
      go_ret
      first | exact ⟨rfl, HB.out.alloc HB.out.size _⟩ | exact ⟨ret_bool (by simp; omega), HB.out.alloc HB.out.size _⟩
    · have hsh : shf l a (0) (n) = some (l) := shf_odd (by omega)
      have hlk := lk_some hsh
      clear hsh
      go_enter Try.func6, Try.ntmps6
      go_wp2_with fail
      refine hk.mono ?_
      rintro e w1 ⟨rfl, hb1⟩
      have HB := Lib.hid hb1
      clear hk hb1
      go_wp2_with fail
      refine (new_any _).mono ?_
      rintro e w2 ⟨rfl, hm2, hb2⟩
      have hsz := HB.out.size
      have HB := Lib.hid (below_on HB.out hb2)
      clear hb2
      go_wp2_with fail
      refine (setk _ _ _ l hm2).mono ?_
      rintro e w3 ⟨rfl, hm3, hf3⟩
      have HB := Lib.hid (HB.out.trans (hf3.below HB.out.size (fun k e => by omega)))
      clear hm2 hf3
      go_wp2_with fail
      refine (adjk _ _ _ l a (0) (n) hm3 hl).mono ?_
      rintro e w4 ⟨rfl, hm4, hf4⟩
      have HB := Lib.hid (HB.out.trans (hf4.below HB.out.size (fun k e => by omega)))
      clear hm3 hf4
      go_wp2_with fail
      have hg := getk _ _ _ _ hm4
      rw [hlk] at hg
      refine hg.mono ?_
      rintro e w5 ⟨rfl, hb5⟩
      have HB := Lib.hid (HB.out.trans (hb5.mono HB.out.size))
      clear hm4 hb5 hlk hg
      have hep := same_pos (l) 7 (w5.alloc (.cells #[.int .i64 (l), .int .i64 7] 37))
      simp only [lz, Option.getD_some, Option.getD_none, Option.isSome_some, Option.isSome_none]
      go_wp2
      go_ret
      first | exact ⟨rfl, HB.out.alloc HB.out.size _⟩ | exact ⟨ret_bool (by simp; omega), HB.out.alloc HB.out.size _⟩
  | false =>
    by_cases h : a ≤ l
    · by_cases h2 : l < a + n
      · have hsh : shf l a (n) (0) = none := shf_gone (by omega) (by omega) (by omega)
        have hlk := lk_none hsh
        clear hsh
        go_enter Try.func6, Try.ntmps6
        go_wp2_with fail
        refine hk.mono ?_
        rintro e w1 ⟨rfl, hb1⟩
        have HB := Lib.hid hb1
        clear hk hb1
        go_wp2_with fail
        refine (new_any _).mono ?_
        rintro e w2 ⟨rfl, hm2, hb2⟩
        have hsz := HB.out.size
        have HB := Lib.hid (below_on HB.out hb2)
        clear hb2
        go_wp2_with fail
        refine (setk _ _ _ l hm2).mono ?_
        rintro e w3 ⟨rfl, hm3, hf3⟩
        have HB := Lib.hid (HB.out.trans (hf3.below HB.out.size (fun k e => by omega)))
        clear hm2 hf3
        go_wp2_with fail
        refine (adjk _ _ _ l a (n) (0) hm3 hl).mono ?_
        rintro e w4 ⟨rfl, hm4, hf4⟩
        have HB := Lib.hid (HB.out.trans (hf4.below HB.out.size (fun k e => by omega)))
        clear hm3 hf4
        go_wp2_with fail
        have hg := getk _ _ _ _ hm4
        rw [hlk] at hg
        refine hg.mono ?_
        rintro e w5 ⟨rfl, hb5⟩
        have HB := Lib.hid (HB.out.trans (hb5.mono HB.out.size))
        clear hm4 hb5 hlk hg
        simp only [lz, Option.getD_some, Option.getD_none, Option.isSome_some, Option.isSome_none]
        go_wp2
        go_ret
        first | exact ⟨rfl, HB.out.alloc HB.out.size _⟩ | exact ⟨ret_bool (by simp; omega), HB.out.alloc HB.out.size _⟩
      · have hsh : shf l a (n) (0) = some (l - n) := (shf_on (by omega) (by omega)).trans (by rw [show l - n + 0 = l - n by omega])
        have hlk := lk_some hsh
        clear hsh
        go_enter Try.func6, Try.ntmps6
        go_wp2_with fail
        refine hk.mono ?_
        rintro e w1 ⟨rfl, hb1⟩
        have HB := Lib.hid hb1
        clear hk hb1
        go_wp2_with fail
        refine (new_any _).mono ?_
        rintro e w2 ⟨rfl, hm2, hb2⟩
        have hsz := HB.out.size
        have HB := Lib.hid (below_on HB.out hb2)
        clear hb2
        go_wp2_with fail
        refine (setk _ _ _ l hm2).mono ?_
        rintro e w3 ⟨rfl, hm3, hf3⟩
        have HB := Lib.hid (HB.out.trans (hf3.below HB.out.size (fun k e => by omega)))
        clear hm2 hf3
        go_wp2_with fail
        refine (adjk _ _ _ l a (n) (0) hm3 hl).mono ?_
        rintro e w4 ⟨rfl, hm4, hf4⟩
        have HB := Lib.hid (HB.out.trans (hf4.below HB.out.size (fun k e => by omega)))
        clear hm3 hf4
        go_wp2_with fail
        have hg := getk _ _ _ _ hm4
        rw [hlk] at hg
        refine hg.mono ?_
        rintro e w5 ⟨rfl, hb5⟩
        have HB := Lib.hid (HB.out.trans (hb5.mono HB.out.size))
        clear hm4 hb5 hlk hg
        have hep := same_pos (l - n) 7 (w5.alloc (.cells #[.int .i64 (l - n), .int .i64 7] 37))
        simp only [lz, Option.getD_some, Option.getD_none, Option.isSome_some, Option.isSome_none]
        go_wp2
        go_ret
        first | exact ⟨rfl, HB.out.alloc HB.out.size _⟩ | exact ⟨ret_bool (by simp; omega), HB.out.alloc HB.out.size _⟩
    · have hsh : shf l a (n) (0) = some (l) := shf_odd (by omega)
      have hlk := lk_some hsh
      clear hsh
      go_enter Try.func6, Try.ntmps6
      go_wp2_with fail
      refine hk.mono ?_
      rintro e w1 ⟨rfl, hb1⟩
      have HB := Lib.hid hb1
      clear hk hb1
      go_wp2_with fail
      refine (new_any _).mono ?_
      rintro e w2 ⟨rfl, hm2, hb2⟩
      have hsz := HB.out.size
      have HB := Lib.hid (below_on HB.out hb2)
      clear hb2
      go_wp2_with fail
      refine (setk _ _ _ l hm2).mono ?_
      rintro e w3 ⟨rfl, hm3, hf3⟩
      have HB := Lib.hid (HB.out.trans (hf3.below HB.out.size (fun k e => by omega)))
      clear hm2 hf3
      go_wp2_with fail
      refine (adjk _ _ _ l a (n) (0) hm3 hl).mono ?_
      rintro e w4 ⟨rfl, hm4, hf4⟩
      have HB := Lib.hid (HB.out.trans (hf4.below HB.out.size (fun k e => by omega)))
      clear hm3 hf4
      go_wp2_with fail
      have hg := getk _ _ _ _ hm4
      rw [hlk] at hg
      refine hg.mono ?_
      rintro e w5 ⟨rfl, hb5⟩
      have HB := Lib.hid (HB.out.trans (hb5.mono HB.out.size))
      clear hm4 hb5 hlk hg
      have hep := same_pos (l) 7 (w5.alloc (.cells #[.int .i64 (l), .int .i64 7] 37))
      simp only [lz, Option.getD_some, Option.getD_none, Option.isSome_some, Option.isSome_none]
      go_wp2
      go_ret
      first | exact ⟨rfl, HB.out.alloc HB.out.size _⟩ | exact ⟨ret_bool (by simp; omega), HB.out.alloc HB.out.size _⟩
end Go.Proofs.Ytmmmaadhbmgciaa.MLines
