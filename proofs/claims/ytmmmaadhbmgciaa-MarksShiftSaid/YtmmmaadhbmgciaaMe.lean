/-
  The chapter's example; a row of names as a text.
-/
import Derived.Test.YtmmmaadhbmgciaaMj
import Derived.Laws.BytesArg
set_option linter.unusedVariables false
set_option linter.unusedSimpArgs false
set_option maxRecDepth 100000
namespace Go.Proofs.Ytmmmaadhbmgciaa.Mk
open Go Go.RowKit Go.Proofs.Ytmmmaadhbmgciaa.Vk Go.Proofs.Ytmmmaadhbmgciaa.Str Go.Proofs.Ytmmmaadhbmgciaa.Ln Go.Proofs.Ytmmmaadhbmgciaa.Cl Go.Proofs.Ytmmmaadhbmgciaa.Ml
attribute [local go_sem] Oper.semAt_some

/-- Names as a text. -/
def strN (l : List Nat) : ByteArray := strOfNums (List.map (fun (c : Nat) => (c : Int)) l)
theorem conv_names {w : World} {a : Option Addr} {n c : Nat} {l : List Nat} (h : SrcV w 1 (.slice a n c) n (nbs l)) : (convert 32 9 (.slice a n c)).run Try.prog w = .ok (.string (strN l)) w := by
  have hl := h.1
  rw [length_nbs, Nat.mul_one] at hl
  rcases h.2.2.2 with ⟨ao, he, h0⟩ | ⟨b, off, c', he, h1, h2, hc⟩
  · injection he with e1 e2 e3
    obtain rfl : l = [] := List.eq_nil_of_length_eq_zero (by omega)
    subst h0 e3
    cases a with
    | none => exact run_convert_bytes_nil w 32 5 Try.underlying32 Try.underlying5 _ _ _ Try.underlying9
    | some ad =>
      rw [run_convert_bytes_string w _ _ _ _ _ _ Try.underlying32 Try.underlying5 Try.underlying9, run_bytesToString w ad 0 0 [] rfl]
      rfl
  · injection he with e1 e2 e3
    subst e1 e3
    refine run_convert_bytes_arg w 32 5 Try.underlying32 Try.underlying5 b off n c (List.map (fun (c : Nat) => (c : Int)) l) (by simp [hl]) (fun i hi => ?_) _ Try.underlying9
    have hi' : i < l.length := by omega
    rw [hc i (.int .u8 ((l[i] : Nat) : Int)) (by simp [nbs, hi'])]
    simp [List.getD, hi']
theorem ptr_nil (g : Nat) (W : World) : (binOp .eql 29 (.pointer (some ⟨g, 0, none⟩)) (.pointer none)).run Try.prog W = .ok (.bool false) W := by
  go_simp

theorem set1 (W : World) (m b : Nat) (h : Mks W m b []) : Calls Try.prog 12 #[.pointer (some ⟨m, 0, none⟩), .int .u8 98, .agg #[.int .i64 4, .int .i64 0]] W fun e w' =>
    e = .returned (.bool true) ∧ Mks w' m b [(98, (4, 0))] ∧ Fr (fun j => j = b) W w' := set_any m b [] 98 4 0 W h (by decide) List.Pairwise.nil (fun _ h => by cases h)
theorem set2 (W : World) (m b : Nat) (h : Mks W m b [(98, (4, 0))]) : Calls Try.prog 12 #[.pointer (some ⟨m, 0, none⟩), .int .u8 97, .agg #[.int .i64 1, .int .i64 0]] W fun e w' =>
    e = .returned (.bool true) ∧ Mks w' m b [(97, (1, 0)), (98, (4, 0))] ∧ Fr (fun j => j = b) W w' := set_any m b _ 97 1 0 W h (by decide) (List.pairwise_singleton _ _) (fun x h => by rw [List.mem_singleton] at h; subst h; decide)
theorem two_srt {x y : Int} : Srt [(97, (x, 0)), (98, (y, 0))] := List.pairwise_cons.2 ⟨fun z hz => by rw [List.mem_singleton] at hz; subst hz; show 97 < 98; decide, List.pairwise_singleton _ _⟩
theorem two_rng {x y : Int} : Rng [(97, (x, 0)), (98, (y, 0))] := fun z hz => by
  simp only [List.mem_cons, List.not_mem_nil, or_false] at hz
  rcases hz with rfl | rfl <;> (constructor <;> simp)
theorem set3 (W : World) (m b : Nat) (h : Mks W m b [(97, (1, 0)), (98, (4, 0))]) : Calls Try.prog 12 #[.pointer (some ⟨m, 0, none⟩), .int .u8 65, .agg #[.int .i64 0, .int .i64 0]] W fun e w' =>
    e = .returned (.bool false) ∧ Mks w' m b [(97, (1, 0)), (98, (4, 0))] ∧ Fr (fun j => j = b) W w' := set_any m b _ 65 0 0 W h (by decide) two_srt two_rng
theorem adj1 (W : World) (m b : Nat) (h : Mks W m b [(97, (1, 0)), (98, (4, 0))]) : Calls Try.prog 14 #[.pointer (some ⟨m, 0, none⟩), .int .i64 2, .int .i64 0, .int .i64 1] W fun e w' =>
    e = .returned (.tuple #[]) ∧ Mks w' m b [(97, (1, 0)), (98, (5, 0))] ∧ Fr (fun j => j = b) W w' := adjust_any m b _ 2 0 1 W h two_srt two_rng (fun z hz => by
  simp only [List.mem_cons, List.not_mem_nil, or_false] at hz
  rcases hz with rfl | rfl <;> decide)
theorem get1 (W : World) (m b : Nat) (h : Mks W m b [(97, (1, 0)), (98, (5, 0))]) : Calls Try.prog 16 #[.pointer (some ⟨m, 0, none⟩), .int .u8 98] W fun e w' =>
    e = .returned (.tuple #[.agg #[.int .i64 5, .int .i64 0], .bool true]) ∧ Below W.heap.size W w' := get_any m b _ 98 W h (by decide)
theorem nam1 (W : World) (m b : Nat) (h : Mks W m b [(97, (1, 0)), (98, (5, 0))]) : Calls Try.prog 18 #[.pointer (some ⟨m, 0, none⟩)] W fun e w' =>
    ∃ a cc, e = .returned (.slice a 2 cc) ∧ SrcV w' 1 (.slice a 2 cc) 2 (nbs [97, 98]) ∧ Below W.heap.size W w' := (names_any m b _ W h two_srt two_rng).mono fun e w' ⟨a, cc, h1, h2, _, h3⟩ => ⟨a, cc, h1, h2, h3⟩
theorem sh1 (W : World) : Calls Try.prog 9 #[.int .i64 5, .int .i64 2, .int .i64 1, .int .i64 3] W fun e w' => e = .returned (.tuple #[.int .i64 7, .bool true]) ∧ W = w' := shift_any 5 2 1 3 W (by decide)
theorem sh2 (W : World) : Calls Try.prog 9 #[.int .i64 3, .int .i64 2, .int .i64 4, .int .i64 1] W fun e w' => e = .returned (.tuple #[.int .i64 0, .bool false]) ∧ W = w' := shift_any 3 2 4 1 W (by decide)

set_option maxHeartbeats 4000000 in
theorem known_any (w : World) : Calls Try.prog 8 #[] w fun e w' => e = .returned (.bool true) ∧ Below w.heap.size w w' := by
  go_enter Try.func8, Try.ntmps8
  go_wp2_with fail
  refine (sh1 _).mono ?_
  rintro e w' ⟨rfl, rfl⟩
  go_wp2_with fail
  refine (sh2 _).mono ?_
  rintro e w' ⟨rfl, rfl⟩
  go_wp2_with fail
  refine (new_any _).mono ?_
  rintro e w1 ⟨rfl, hm1, hb1⟩
  have hpn1 := ptr_nil (w.heap.size + 1) w1
  have HB := Lib.hid hb1
  clear hb1
  go_wp2_with fail
  refine (set1 _ _ _ hm1).mono ?_
  rintro e w2 ⟨rfl, hm2, hb2⟩
  have HB := Lib.hid (HB.out.trans ((hb2.below HB.out.size (fun k e => Nat.le_of_eq e.symm))))
  clear hm1 hb2 hpn1
  go_wp2_with fail
  refine (set2 _ _ _ hm2).mono ?_
  rintro e w3 ⟨rfl, hm3, hb3⟩
  have HB := Lib.hid (HB.out.trans ((hb3.below HB.out.size (fun k e => Nat.le_of_eq e.symm))))
  clear hm2 hb3
  go_wp2_with fail
  refine (set3 _ _ _ hm3).mono ?_
  rintro e w4 ⟨rfl, hm4, hb4⟩
  have HB := Lib.hid (HB.out.trans ((hb4.below HB.out.size (fun k e => Nat.le_of_eq e.symm))))
  clear hm3 hb4
  go_wp2_with fail
  refine (adj1 _ _ _ hm4).mono ?_
  rintro e w5 ⟨rfl, hm5, hb5⟩
  have HB := Lib.hid (HB.out.trans ((hb5.below HB.out.size (fun k e => Nat.le_of_eq e.symm))))
  clear hm4 hb5
  go_wp2_with fail
  refine (get1 _ _ _ hm5).mono ?_
  rintro e w6 ⟨rfl, hb6⟩
  have hm6 := hm5.below hb6
  have HB := Lib.hid (HB.out.trans (hb6.mono HB.out.size))
  clear hm5 hb6
  go_wp2_with fail
  have hb6 := (Below.refl w6.heap.size w6).alloc (Nat.le_refl _) (.cells #[.int .i64 5, .int .i64 0] 37)
  refine (nam1 _ _ _ (hm6.below hb6)).mono ?_
  rintro e w7 ⟨a, cc, rfl, hsrc, hb7⟩
  have hcv := conv_names hsrc
  rw [show strN [97, 98] = ({ data := #[97, 98] } : ByteArray) from rfl] at hcv
  have HB := Lib.hid (HB.out.trans ((below_on hb6 hb7).mono HB.out.size))
  clear hm6 hb6 hb7 hsrc
  go_wp2
  go_ret
  exact ⟨rfl, HB.out⟩
end Go.Proofs.Ytmmmaadhbmgciaa.Mk
