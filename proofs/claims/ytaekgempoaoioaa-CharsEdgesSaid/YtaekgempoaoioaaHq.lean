/-
  Package chars: Seek.
-/
import Derived.Test.YtaekgempoaoioaaHk
set_option linter.unusedVariables false
set_option linter.unusedSimpArgs false
set_option maxRecDepth 100000
namespace Go.Proofs.Ytaekgempoaoioaa.Ch
open Go Go.RowKit Go.Proofs.Ytaekgempoaoioaa.Vk Go.Proofs.Ytaekgempoaoioaa.Str Go.Proofs.Ytaekgempoaoioaa.Ln Go.Proofs.Ytaekgempoaoioaa.Cl Go.Proofs.Ytaekgempoaoioaa.Mv
attribute [local go_sem] Oper.semAt_some
set_option maxHeartbeats 2000000

def seekAt (s : ByteArray) (m : Nat) (b : Int) (N : Nat) (key : Int) : Option Nat := if key = 102 ∨ key = 116 then seekF s m b N else if key = 70 ∨ key = 84 then seekB s m b N else none
def seekRes (l key : Int) : Option Nat → R
  | none => R.no
  | some j => ⟨l, if key = 116 then (j : Int) - 1 else if key = 84 then (j : Int) + 1 else j, if key = 102 ∨ key = 116 then 1 else 0, false, -1, true⟩
def seekR (ls : List ByteArray) (l c key b k : Int) : R := if Plc ls l c ∧ 1 ≤ k then seekRes l key (seekAt (lineAt ls l.toNat) c.toNat b k.toNat key) else R.no
theorem seekAt_cap {s : ByteArray} {m : Nat} {b k key : Int} (hs : s.size ≤ 1000000) (hm : m ≤ s.size) : seekAt s m b (min k 1073741824).toNat key = seekAt s m b k.toNat key := by
  by_cases hk : k ≤ 1073741824
  · rw [show min k 1073741824 = k by omega]
  · have h1 : ∀ N : Nat, 1000001 ≤ N → seekAt s m b N key = none := fun N hN => by
      unfold seekAt
      split
      · exact seekF_no (Nat.lt_of_le_of_lt cntc_le (by omega))
      · split
        · exact seekB_no (Nat.lt_of_le_of_lt cntc_le (by omega))
        · rfl
    rw [h1 _ (by omega), h1 _ (by omega)]
theorem seekR_in {ls : List ByteArray} {i m : Nat} {key b k : Int} (hp : Plc ls (i : Int) (m : Int)) (hk : 1 ≤ k) : seekR ls i m key b k = seekRes i key (seekAt (lineAt ls i) m b k.toNat key) := by
  unfold seekR; rw [if_pos ⟨hp, hk⟩, Int.toNat_natCast, Int.toNat_natCast]
theorem wrap_dec (j : Nat) (h : j ≤ 9223372036854775807) : IntKind.i64.wrap ((j : Int) - 1) = (j : Int) - 1 := by rw [IntKind.wrap_i64]; omega
theorem wrap_inc (j : Nat) (h : j < 9223372036854775807) : IntKind.i64.wrap ((j : Int) + 1) = (j : Int) + 1 := by rw [IntKind.wrap_i64]; omega

abbrev s6 (s : ByteArray) : Prop := s.size ≤ 1000000

theorem seek_any (a : Option Addr) (n c' : Nat) (ls : List ByteArray) (l c : Int) (key x k : Int) (w : World) (h : Ss w a n c' ls) (hs : ∀ s ∈ ls, s.size ≤ 140737488355328) (hs6 : ∀ s ∈ ls, s6 s) :
    Calls Try.prog 25 #[.slice a n c', .agg #[.int .i64 l, .int .i64 c], .int .u8 key, .int .u8 x, .int .i64 k] w fun e w' => e = .returned ((seekR ls l c key x k)).v ∧ Below w.heap.size w w' := by
  obtain ⟨X, hX⟩ : ∃ X, X = ((w.alloc (.cells #[.int .i64 l, .int .i64 c] 24)).alloc (.cells #[.int .i64 0, .int .i64 0, .int .i64 0, .bool false, .int .i64 0] 32)) := ⟨_, rfl⟩
  have hT : Two w X l c := by rw [hX]; exact Two.new w l c
  have HX := Lib.hid hX
  have h1 := inside_any a n c' ls l c X (SrcV.below h hT.below) hs
  have p0 := hT.pos.c0
  have p1 := hT.pos.c1
  have m0 := hT.mv.c0
  have m1 := hT.mv.c1
  have m2 := hT.mv.c2
  have m3 := hT.mv.c3
  have m4 := hT.mv.c4
  have z := hT.mv.z
  have hlen := h.length
  have hn := h.le63
  by_cases hp : Plc ls l c
  · rw [decide_eq_true hp] at h1
    by_cases hk : 1 ≤ k
    · obtain ⟨i, m, rfl, rfl, hi, hm⟩ := hp.nat
      obtain ⟨b, o, rfl, hcell, hnc, _⟩ := h.read i hi
      have hlt := lineAt_get hi
      rw [← hlt] at hcell
      have hsz := hs (ls[i]'hi) (List.getElem_mem _)
      rw [← hlt] at hsz
      rw [hlen] at hi
      have hz6 : s6 (lineAt ls i) := by rw [hlt]; exact hs6 _ (List.getElem_mem _)
      rw [seekR_in hp hk, ← seekAt_cap hz6 hm]
      clear hp h hs hs6 hX hlt
      generalize lineAt ls i = s at *
      have h2 := fun W => counted_any k W
      obtain ⟨N, hN⟩ : ∃ N : Nat, min k 1073741824 = (N : Int) := ⟨(min k 1073741824).toNat, by omega⟩
      rw [hN, Int.toNat_natCast]
      rw [hN] at h2
      have hk1 : ¬ k < 1 := by omega
      have hfa := fun W => after_any s m x N W hsz hm (by omega) (by omega)
      have hbe := fun W => before_any s m x N W hsz hm (by omega) (by omega)
      have hxc := fun (j : Int) W => exclusive_any i j W
      clear hN hk
      by_cases hk102 : key = 102
      · subst hk102
        rw [show seekAt s m x N 102 = seekF s m x N from rfl]
        cases hr : seekF s m x N with
        | none =>
          rw [hr] at hfa
          simp only [Option.getD_none, Option.isSome_none] at hfa
          rw [show seekRes i 102 none = R.no from rfl]
          clear hr hxc
          go_enter Try.func25, Try.ntmps25
          go_wp2_with fail
          rw [← HX.out]
          refine (h1).mono ?_
          rintro e w1 ⟨rfl, hb_w1⟩
          have hT1 := hT.on hb_w1
          clear p0 p1 m0 m1 m2 m3 m4 z h1
          have p0 := hT1.pos.c0
          have p1 := hT1.pos.c1
          have m0 := hT1.mv.c0
          have m1 := hT1.mv.c1
          have m2 := hT1.mv.c2
          have m3 := hT1.mv.c3
          have m4 := hT1.mv.c4
          have z := hT1.mv.z
          have hc1 := cell_later (hT.below.trans (hb_w1.mono hT.below.size)) hcell
          have F0 := fun z : Gr w1 => z.cell p0
          have F1 := fun z : Gr w1 => z.cell p1
          have G2 := fun z : Gr w1 => h2 z.W
          have G3 := fun z : Gr w1 => hfa z.W
          clear hT hcell h2 hfa hbe
          go_wp2
          clear p0 p1 m0 m1 m2 m3 m4 z hc1
          refine wp_region_grow (by kernel_rfl) (by kernel_rfl) ?_
          repeat (go_big_quiet_step (first | (go_at_call 30; exact Calls.grow_of_same (G2 _)) | (go_at_call 39; exact Calls.grow_of_same (G3 _))))
          refine wpQuiet_nil ?_
          rintro w2 ⟨⟨_, hb_w2⟩, rfl⟩
          have hT2 := hT1.on hb_w2
          clear F0 F1 G2 G3 hT1
          have p0 := hT2.pos.c0
          have p1 := hT2.pos.c1
          have m0 := hT2.mv.c0
          have m1 := hT2.mv.c1
          have m2 := hT2.mv.c2
          have m3 := hT2.mv.c3
          have m4 := hT2.mv.c4
          have z := hT2.mv.z
          go_wp2
          obtain ⟨hg, hb⟩ := hT2.ret 0 0 0 0 false
          exact ret_mv (r := R.no) (g := w.heap.size + 1) rfl rfl rfl rfl hg ⟨rfl, hb⟩
        | some j =>
          have hjs : j < s.size + 1 := by have := (seekF_get hr).2.2; omega
          rw [hr] at hfa
          simp only [Option.getD_some, Option.isSome_some] at hfa
          rw [show seekRes i 102 (some j) = ⟨i, j, 1, false, -1, true⟩ from rfl]
          clear hr
          go_enter Try.func25, Try.ntmps25
          go_wp2_with fail
          rw [← HX.out]
          refine (h1).mono ?_
          rintro e w1 ⟨rfl, hb_w1⟩
          have hT1 := hT.on hb_w1
          clear p0 p1 m0 m1 m2 m3 m4 z h1
          have p0 := hT1.pos.c0
          have p1 := hT1.pos.c1
          have m0 := hT1.mv.c0
          have m1 := hT1.mv.c1
          have m2 := hT1.mv.c2
          have m3 := hT1.mv.c3
          have m4 := hT1.mv.c4
          have z := hT1.mv.z
          have hc1 := cell_later (hT.below.trans (hb_w1.mono hT.below.size)) hcell
          have F0 := fun z : Gr w1 => z.cell p0
          have F1 := fun z : Gr w1 => z.cell p1
          have G2 := fun z : Gr w1 => h2 z.W
          have G3 := fun z : Gr w1 => hfa z.W
          clear hT hcell h2 hfa hbe
          go_wp2
          clear p0 p1 m0 m1 m2 m3 m4 z hc1
          refine wp_region_grow (by kernel_rfl) (by kernel_rfl) ?_
          repeat (go_big_quiet_step (first | (go_at_call 30; exact Calls.grow_of_same (G2 _)) | (go_at_call 39; exact Calls.grow_of_same (G3 _))))
          refine wpQuiet_nil ?_
          rintro w2 ⟨⟨_, hb_w2⟩, rfl⟩
          have hT2 := hT1.on hb_w2
          clear F0 F1 G2 G3 hT1
          have p0 := hT2.pos.c0
          have p1 := hT2.pos.c1
          have m0 := hT2.mv.c0
          have m1 := hT2.mv.c1
          have m2 := hT2.mv.c2
          have m3 := hT2.mv.c3
          have m4 := hT2.mv.c4
          have z := hT2.mv.z
          go_wp2_with fail
          refine (hxc j _).mono ?_
          rintro e w3 ⟨rfl, hb_w3⟩
          have hT3 := hT2.on hb_w3
          clear p0 p1 m0 m1 m2 m3 m4 z
          have hV4 := MvAt.new w3 i j 0 (-1) false
          have hT4 := hT3.on ((Below.refl _ w3).alloc (Nat.le_refl _) (.cells #[.int .i64 (i : Int), .int .i64 (j : Int), .int .i64 0, .bool false, .int .i64 (-1)] 32))
          have hg0 : w.heap.size + 2 ≤ w3.heap.size := hT3.size
          clear hxc
          go_upto_region 16 with fail
          obtain ⟨w4, hw4⟩ : ∃ w4, w4 = w3.alloc (.cells #[.int .i64 (i : Int), .int .i64 (j : Int), .int .i64 0, .bool false, .int .i64 (-1)] 32) := ⟨_, rfl⟩
          rw [← hw4] at hT4 hV4 ⊢
          obtain ⟨g, hg⟩ : ∃ g, g = w3.heap.size := ⟨_, rfl⟩
          rw [← hg] at hV4 hg0 ⊢
          clear hw4 hg
          have v0 := hV4.c0
          have v1 := hV4.c1
          have v2 := hV4.c2
          have v3 := hV4.c3
          have v4 := hV4.c4
          have zv := hV4.z
          have hT5 := hT4.set hg0 2 (.int .i64 1)
          have hV5 := hV4.set2 1
          go_upto_region 24 with fail
          obtain ⟨w5, hw5⟩ : ∃ w5, w5 = w4.setCell ⟨g, 2, none⟩ (.int .i64 1) := ⟨_, rfl⟩
          rw [← hw5] at hT5 hV5 ⊢
          clear v0 v1 v2 v3 v4 zv hw5
          have v0 := hV5.c0
          have v1 := hV5.c1
          have v2 := hV5.c2
          have v3 := hV5.c3
          have v4 := hV5.c4
          have zv := hV5.z
          have p0 := hT5.pos.c0
          have p1 := hT5.pos.c1
          have m0 := hT5.mv.c0
          have m1 := hT5.mv.c1
          have m2 := hT5.mv.c2
          have m3 := hT5.mv.c3
          have m4 := hT5.mv.c4
          have z := hT5.mv.z
          go_wp2
          obtain ⟨hg, hb⟩ := hT5.ret i j 1 (-1) false
          exact ret_mv (r := ⟨i, j, 1, false, -1, true⟩) (g := w.heap.size + 1) rfl rfl rfl rfl hg ⟨rfl, hb⟩
      by_cases hk116 : key = 116
      · subst hk116
        rw [show seekAt s m x N 116 = seekF s m x N from rfl]
        cases hr : seekF s m x N with
        | none =>
          rw [hr] at hfa
          simp only [Option.getD_none, Option.isSome_none] at hfa
          rw [show seekRes i 116 none = R.no from rfl]
          clear hr hxc
          go_enter Try.func25, Try.ntmps25
          go_wp2_with fail
          rw [← HX.out]
          refine (h1).mono ?_
          rintro e w1 ⟨rfl, hb_w1⟩
          have hT1 := hT.on hb_w1
          clear p0 p1 m0 m1 m2 m3 m4 z h1
          have p0 := hT1.pos.c0
          have p1 := hT1.pos.c1
          have m0 := hT1.mv.c0
          have m1 := hT1.mv.c1
          have m2 := hT1.mv.c2
          have m3 := hT1.mv.c3
          have m4 := hT1.mv.c4
          have z := hT1.mv.z
          have hc1 := cell_later (hT.below.trans (hb_w1.mono hT.below.size)) hcell
          have F0 := fun z : Gr w1 => z.cell p0
          have F1 := fun z : Gr w1 => z.cell p1
          have G2 := fun z : Gr w1 => h2 z.W
          have G3 := fun z : Gr w1 => hfa z.W
          clear hT hcell h2 hfa hbe
          go_wp2
          clear p0 p1 m0 m1 m2 m3 m4 z hc1
          refine wp_region_grow (by kernel_rfl) (by kernel_rfl) ?_
          repeat (go_big_quiet_step (first | (go_at_call 30; exact Calls.grow_of_same (G2 _)) | (go_at_call 39; exact Calls.grow_of_same (G3 _))))
          refine wpQuiet_nil ?_
          rintro w2 ⟨⟨_, hb_w2⟩, rfl⟩
          have hT2 := hT1.on hb_w2
          clear F0 F1 G2 G3 hT1
          have p0 := hT2.pos.c0
          have p1 := hT2.pos.c1
          have m0 := hT2.mv.c0
          have m1 := hT2.mv.c1
          have m2 := hT2.mv.c2
          have m3 := hT2.mv.c3
          have m4 := hT2.mv.c4
          have z := hT2.mv.z
          go_wp2
          obtain ⟨hg, hb⟩ := hT2.ret 0 0 0 0 false
          exact ret_mv (r := R.no) (g := w.heap.size + 1) rfl rfl rfl rfl hg ⟨rfl, hb⟩
        | some j =>
          have hjs : j < s.size + 1 := by have := (seekF_get hr).2.2; omega
          rw [hr] at hfa
          simp only [Option.getD_some, Option.isSome_some] at hfa
          rw [show seekRes i 116 (some j) = ⟨i, (j : Int) - 1, 1, false, -1, true⟩ from rfl]
          clear hr
          go_enter Try.func25, Try.ntmps25
          go_wp2_with fail
          rw [← HX.out]
          refine (h1).mono ?_
          rintro e w1 ⟨rfl, hb_w1⟩
          have hT1 := hT.on hb_w1
          clear p0 p1 m0 m1 m2 m3 m4 z h1
          have p0 := hT1.pos.c0
          have p1 := hT1.pos.c1
          have m0 := hT1.mv.c0
          have m1 := hT1.mv.c1
          have m2 := hT1.mv.c2
          have m3 := hT1.mv.c3
          have m4 := hT1.mv.c4
          have z := hT1.mv.z
          have hc1 := cell_later (hT.below.trans (hb_w1.mono hT.below.size)) hcell
          have F0 := fun z : Gr w1 => z.cell p0
          have F1 := fun z : Gr w1 => z.cell p1
          have G2 := fun z : Gr w1 => h2 z.W
          have G3 := fun z : Gr w1 => hfa z.W
          clear hT hcell h2 hfa hbe
          go_wp2
          clear p0 p1 m0 m1 m2 m3 m4 z hc1
          refine wp_region_grow (by kernel_rfl) (by kernel_rfl) ?_
          repeat (go_big_quiet_step (first | (go_at_call 30; exact Calls.grow_of_same (G2 _)) | (go_at_call 39; exact Calls.grow_of_same (G3 _))))
          refine wpQuiet_nil ?_
          rintro w2 ⟨⟨_, hb_w2⟩, rfl⟩
          have hT2 := hT1.on hb_w2
          clear F0 F1 G2 G3 hT1
          have p0 := hT2.pos.c0
          have p1 := hT2.pos.c1
          have m0 := hT2.mv.c0
          have m1 := hT2.mv.c1
          have m2 := hT2.mv.c2
          have m3 := hT2.mv.c3
          have m4 := hT2.mv.c4
          have z := hT2.mv.z
          go_wp2_with fail
          refine (hxc j _).mono ?_
          rintro e w3 ⟨rfl, hb_w3⟩
          have hT3 := hT2.on hb_w3
          clear p0 p1 m0 m1 m2 m3 m4 z
          have hV4 := MvAt.new w3 i j 0 (-1) false
          have hT4 := hT3.on ((Below.refl _ w3).alloc (Nat.le_refl _) (.cells #[.int .i64 (i : Int), .int .i64 (j : Int), .int .i64 0, .bool false, .int .i64 (-1)] 32))
          have hg0 : w.heap.size + 2 ≤ w3.heap.size := hT3.size
          clear hxc
          go_upto_region 16 with fail
          obtain ⟨w4, hw4⟩ : ∃ w4, w4 = w3.alloc (.cells #[.int .i64 (i : Int), .int .i64 (j : Int), .int .i64 0, .bool false, .int .i64 (-1)] 32) := ⟨_, rfl⟩
          rw [← hw4] at hT4 hV4 ⊢
          obtain ⟨g, hg⟩ : ∃ g, g = w3.heap.size := ⟨_, rfl⟩
          rw [← hg] at hV4 hg0 ⊢
          clear hw4 hg
          have v0 := hV4.c0
          have v1 := hV4.c1
          have v2 := hV4.c2
          have v3 := hV4.c3
          have v4 := hV4.c4
          have zv := hV4.z
          have hT5 := (hT4.set hg0 2 (.int .i64 1)).set hg0 1 (.int .i64 ((j : Int) - 1))
          have hV5 := (hV4.set2 1).set1 ((j : Int) - 1)
          have ea := wrap_dec j (by omega)
          have u1 := (hV4.set2 1).c1
          have y1 := (hV4.set2 1).z
          go_upto_region 24 with fail
          obtain ⟨w5, hw5⟩ : ∃ w5, w5 = (w4.setCell ⟨g, 2, none⟩ (.int .i64 1)).setCell ⟨g, 1, none⟩ (.int .i64 ((j : Int) - 1)) := ⟨_, rfl⟩
          rw [← hw5] at hT5 hV5 ⊢
          clear v0 v1 v2 v3 v4 zv hw5 ea u1 y1
          have v0 := hV5.c0
          have v1 := hV5.c1
          have v2 := hV5.c2
          have v3 := hV5.c3
          have v4 := hV5.c4
          have zv := hV5.z
          have p0 := hT5.pos.c0
          have p1 := hT5.pos.c1
          have m0 := hT5.mv.c0
          have m1 := hT5.mv.c1
          have m2 := hT5.mv.c2
          have m3 := hT5.mv.c3
          have m4 := hT5.mv.c4
          have z := hT5.mv.z
          go_wp2
          obtain ⟨hg, hb⟩ := hT5.ret i ((j : Int) - 1) 1 (-1) false
          exact ret_mv (r := ⟨i, ((j : Int) - 1), 1, false, -1, true⟩) (g := w.heap.size + 1) rfl rfl rfl rfl hg ⟨rfl, hb⟩
      by_cases hk70 : key = 70
      · subst hk70
        rw [show seekAt s m x N 70 = seekB s m x N from rfl]
        cases hr : seekB s m x N with
        | none =>
          rw [hr] at hbe
          simp only [Option.getD_none, Option.isSome_none] at hbe
          rw [show seekRes i 70 none = R.no from rfl]
          clear hr hxc
          go_enter Try.func25, Try.ntmps25
          go_wp2_with fail
          rw [← HX.out]
          refine (h1).mono ?_
          rintro e w1 ⟨rfl, hb_w1⟩
          have hT1 := hT.on hb_w1
          clear p0 p1 m0 m1 m2 m3 m4 z h1
          have p0 := hT1.pos.c0
          have p1 := hT1.pos.c1
          have m0 := hT1.mv.c0
          have m1 := hT1.mv.c1
          have m2 := hT1.mv.c2
          have m3 := hT1.mv.c3
          have m4 := hT1.mv.c4
          have z := hT1.mv.z
          have hc1 := cell_later (hT.below.trans (hb_w1.mono hT.below.size)) hcell
          have F0 := fun z : Gr w1 => z.cell p0
          have F1 := fun z : Gr w1 => z.cell p1
          have G2 := fun z : Gr w1 => h2 z.W
          have G3 := fun z : Gr w1 => hbe z.W
          clear hT hcell h2 hfa hbe
          go_wp2
          clear p0 p1 m0 m1 m2 m3 m4 z hc1
          refine wp_region_grow (by kernel_rfl) (by kernel_rfl) ?_
          repeat (go_big_quiet_step (first | (go_at_call 30; exact Calls.grow_of_same (G2 _)) | (go_at_call 40; exact Calls.grow_of_same (G3 _))))
          refine wpQuiet_nil ?_
          rintro w2 ⟨⟨_, hb_w2⟩, rfl⟩
          have hT2 := hT1.on hb_w2
          clear F0 F1 G2 G3 hT1
          have p0 := hT2.pos.c0
          have p1 := hT2.pos.c1
          have m0 := hT2.mv.c0
          have m1 := hT2.mv.c1
          have m2 := hT2.mv.c2
          have m3 := hT2.mv.c3
          have m4 := hT2.mv.c4
          have z := hT2.mv.z
          go_wp2
          obtain ⟨hg, hb⟩ := hT2.ret 0 0 0 0 false
          exact ret_mv (r := R.no) (g := w.heap.size + 1) rfl rfl rfl rfl hg ⟨rfl, hb⟩
        | some j =>
          have hjs : j < s.size + 1 := by have h9 := List.mem_range.1 (List.mem_of_find?_eq_some (by unfold seekB at hr; exact hr)); omega
          rw [hr] at hbe
          simp only [Option.getD_some, Option.isSome_some] at hbe
          rw [show seekRes i 70 (some j) = ⟨i, j, 0, false, -1, true⟩ from rfl]
          clear hr
          go_enter Try.func25, Try.ntmps25
          go_wp2_with fail
          rw [← HX.out]
          refine (h1).mono ?_
          rintro e w1 ⟨rfl, hb_w1⟩
          have hT1 := hT.on hb_w1
          clear p0 p1 m0 m1 m2 m3 m4 z h1
          have p0 := hT1.pos.c0
          have p1 := hT1.pos.c1
          have m0 := hT1.mv.c0
          have m1 := hT1.mv.c1
          have m2 := hT1.mv.c2
          have m3 := hT1.mv.c3
          have m4 := hT1.mv.c4
          have z := hT1.mv.z
          have hc1 := cell_later (hT.below.trans (hb_w1.mono hT.below.size)) hcell
          have F0 := fun z : Gr w1 => z.cell p0
          have F1 := fun z : Gr w1 => z.cell p1
          have G2 := fun z : Gr w1 => h2 z.W
          have G3 := fun z : Gr w1 => hbe z.W
          clear hT hcell h2 hfa hbe
          go_wp2
          clear p0 p1 m0 m1 m2 m3 m4 z hc1
          refine wp_region_grow (by kernel_rfl) (by kernel_rfl) ?_
          repeat (go_big_quiet_step (first | (go_at_call 30; exact Calls.grow_of_same (G2 _)) | (go_at_call 40; exact Calls.grow_of_same (G3 _))))
          refine wpQuiet_nil ?_
          rintro w2 ⟨⟨_, hb_w2⟩, rfl⟩
          have hT2 := hT1.on hb_w2
          clear F0 F1 G2 G3 hT1
          have p0 := hT2.pos.c0
          have p1 := hT2.pos.c1
          have m0 := hT2.mv.c0
          have m1 := hT2.mv.c1
          have m2 := hT2.mv.c2
          have m3 := hT2.mv.c3
          have m4 := hT2.mv.c4
          have z := hT2.mv.z
          go_wp2_with fail
          refine (hxc j _).mono ?_
          rintro e w3 ⟨rfl, hb_w3⟩
          have hT3 := hT2.on hb_w3
          clear p0 p1 m0 m1 m2 m3 m4 z
          have hV4 := MvAt.new w3 i j 0 (-1) false
          have hT4 := hT3.on ((Below.refl _ w3).alloc (Nat.le_refl _) (.cells #[.int .i64 (i : Int), .int .i64 (j : Int), .int .i64 0, .bool false, .int .i64 (-1)] 32))
          have hg0 : w.heap.size + 2 ≤ w3.heap.size := hT3.size
          clear hxc
          go_upto_region 16 with fail
          obtain ⟨w4, hw4⟩ : ∃ w4, w4 = w3.alloc (.cells #[.int .i64 (i : Int), .int .i64 (j : Int), .int .i64 0, .bool false, .int .i64 (-1)] 32) := ⟨_, rfl⟩
          rw [← hw4] at hT4 hV4 ⊢
          obtain ⟨g, hg⟩ : ∃ g, g = w3.heap.size := ⟨_, rfl⟩
          rw [← hg] at hV4 hg0 ⊢
          clear hw4 hg
          have v0 := hV4.c0
          have v1 := hV4.c1
          have v2 := hV4.c2
          have v3 := hV4.c3
          have v4 := hV4.c4
          have zv := hV4.z
          have hT5 := hT4
          have hV5 := hV4
          go_upto_region 24 with fail
          clear v0 v1 v2 v3 v4 zv
          have v0 := hV5.c0
          have v1 := hV5.c1
          have v2 := hV5.c2
          have v3 := hV5.c3
          have v4 := hV5.c4
          have zv := hV5.z
          have p0 := hT5.pos.c0
          have p1 := hT5.pos.c1
          have m0 := hT5.mv.c0
          have m1 := hT5.mv.c1
          have m2 := hT5.mv.c2
          have m3 := hT5.mv.c3
          have m4 := hT5.mv.c4
          have z := hT5.mv.z
          go_wp2
          obtain ⟨hg, hb⟩ := hT5.ret i j 0 (-1) false
          exact ret_mv (r := ⟨i, j, 0, false, -1, true⟩) (g := w.heap.size + 1) rfl rfl rfl rfl hg ⟨rfl, hb⟩
      by_cases hk84 : key = 84
      · subst hk84
        rw [show seekAt s m x N 84 = seekB s m x N from rfl]
        cases hr : seekB s m x N with
        | none =>
          rw [hr] at hbe
          simp only [Option.getD_none, Option.isSome_none] at hbe
          rw [show seekRes i 84 none = R.no from rfl]
          clear hr hxc
          go_enter Try.func25, Try.ntmps25
          go_wp2_with fail
          rw [← HX.out]
          refine (h1).mono ?_
          rintro e w1 ⟨rfl, hb_w1⟩
          have hT1 := hT.on hb_w1
          clear p0 p1 m0 m1 m2 m3 m4 z h1
          have p0 := hT1.pos.c0
          have p1 := hT1.pos.c1
          have m0 := hT1.mv.c0
          have m1 := hT1.mv.c1
          have m2 := hT1.mv.c2
          have m3 := hT1.mv.c3
          have m4 := hT1.mv.c4
          have z := hT1.mv.z
          have hc1 := cell_later (hT.below.trans (hb_w1.mono hT.below.size)) hcell
          have F0 := fun z : Gr w1 => z.cell p0
          have F1 := fun z : Gr w1 => z.cell p1
          have G2 := fun z : Gr w1 => h2 z.W
          have G3 := fun z : Gr w1 => hbe z.W
          clear hT hcell h2 hfa hbe
          go_wp2
          clear p0 p1 m0 m1 m2 m3 m4 z hc1
          refine wp_region_grow (by kernel_rfl) (by kernel_rfl) ?_
          repeat (go_big_quiet_step (first | (go_at_call 30; exact Calls.grow_of_same (G2 _)) | (go_at_call 40; exact Calls.grow_of_same (G3 _))))
          refine wpQuiet_nil ?_
          rintro w2 ⟨⟨_, hb_w2⟩, rfl⟩
          have hT2 := hT1.on hb_w2
          clear F0 F1 G2 G3 hT1
          have p0 := hT2.pos.c0
          have p1 := hT2.pos.c1
          have m0 := hT2.mv.c0
          have m1 := hT2.mv.c1
          have m2 := hT2.mv.c2
          have m3 := hT2.mv.c3
          have m4 := hT2.mv.c4
          have z := hT2.mv.z
          go_wp2
          obtain ⟨hg, hb⟩ := hT2.ret 0 0 0 0 false
          exact ret_mv (r := R.no) (g := w.heap.size + 1) rfl rfl rfl rfl hg ⟨rfl, hb⟩
        | some j =>
          have hjs : j < s.size + 1 := by have h9 := List.mem_range.1 (List.mem_of_find?_eq_some (by unfold seekB at hr; exact hr)); omega
          rw [hr] at hbe
          simp only [Option.getD_some, Option.isSome_some] at hbe
          rw [show seekRes i 84 (some j) = ⟨i, (j : Int) + 1, 0, false, -1, true⟩ from rfl]
          clear hr
          go_enter Try.func25, Try.ntmps25
          go_wp2_with fail
          rw [← HX.out]
          refine (h1).mono ?_
          rintro e w1 ⟨rfl, hb_w1⟩
          have hT1 := hT.on hb_w1
          clear p0 p1 m0 m1 m2 m3 m4 z h1
          have p0 := hT1.pos.c0
          have p1 := hT1.pos.c1
          have m0 := hT1.mv.c0
          have m1 := hT1.mv.c1
          have m2 := hT1.mv.c2
          have m3 := hT1.mv.c3
          have m4 := hT1.mv.c4
          have z := hT1.mv.z
          have hc1 := cell_later (hT.below.trans (hb_w1.mono hT.below.size)) hcell
          have F0 := fun z : Gr w1 => z.cell p0
          have F1 := fun z : Gr w1 => z.cell p1
          have G2 := fun z : Gr w1 => h2 z.W
          have G3 := fun z : Gr w1 => hbe z.W
          clear hT hcell h2 hfa hbe
          go_wp2
          clear p0 p1 m0 m1 m2 m3 m4 z hc1
          refine wp_region_grow (by kernel_rfl) (by kernel_rfl) ?_
          repeat (go_big_quiet_step (first | (go_at_call 30; exact Calls.grow_of_same (G2 _)) | (go_at_call 40; exact Calls.grow_of_same (G3 _))))
          refine wpQuiet_nil ?_
          rintro w2 ⟨⟨_, hb_w2⟩, rfl⟩
          have hT2 := hT1.on hb_w2
          clear F0 F1 G2 G3 hT1
          have p0 := hT2.pos.c0
          have p1 := hT2.pos.c1
          have m0 := hT2.mv.c0
          have m1 := hT2.mv.c1
          have m2 := hT2.mv.c2
          have m3 := hT2.mv.c3
          have m4 := hT2.mv.c4
          have z := hT2.mv.z
          go_wp2_with fail
          refine (hxc j _).mono ?_
          rintro e w3 ⟨rfl, hb_w3⟩
          have hT3 := hT2.on hb_w3
          clear p0 p1 m0 m1 m2 m3 m4 z
          have hV4 := MvAt.new w3 i j 0 (-1) false
          have hT4 := hT3.on ((Below.refl _ w3).alloc (Nat.le_refl _) (.cells #[.int .i64 (i : Int), .int .i64 (j : Int), .int .i64 0, .bool false, .int .i64 (-1)] 32))
          have hg0 : w.heap.size + 2 ≤ w3.heap.size := hT3.size
          clear hxc
          go_upto_region 16 with fail
          obtain ⟨w4, hw4⟩ : ∃ w4, w4 = w3.alloc (.cells #[.int .i64 (i : Int), .int .i64 (j : Int), .int .i64 0, .bool false, .int .i64 (-1)] 32) := ⟨_, rfl⟩
          rw [← hw4] at hT4 hV4 ⊢
          obtain ⟨g, hg⟩ : ∃ g, g = w3.heap.size := ⟨_, rfl⟩
          rw [← hg] at hV4 hg0 ⊢
          clear hw4 hg
          have v0 := hV4.c0
          have v1 := hV4.c1
          have v2 := hV4.c2
          have v3 := hV4.c3
          have v4 := hV4.c4
          have zv := hV4.z
          have hT5 := hT4.set hg0 1 (.int .i64 ((j : Int) + 1))
          have hV5 := hV4.set1 ((j : Int) + 1)
          have ea := wrap_inc j (by omega)
          go_upto_region 24 with fail
          obtain ⟨w5, hw5⟩ : ∃ w5, w5 = w4.setCell ⟨g, 1, none⟩ (.int .i64 ((j : Int) + 1)) := ⟨_, rfl⟩
          rw [← hw5] at hT5 hV5 ⊢
          clear v0 v1 v2 v3 v4 zv hw5 ea
          have v0 := hV5.c0
          have v1 := hV5.c1
          have v2 := hV5.c2
          have v3 := hV5.c3
          have v4 := hV5.c4
          have zv := hV5.z
          have p0 := hT5.pos.c0
          have p1 := hT5.pos.c1
          have m0 := hT5.mv.c0
          have m1 := hT5.mv.c1
          have m2 := hT5.mv.c2
          have m3 := hT5.mv.c3
          have m4 := hT5.mv.c4
          have z := hT5.mv.z
          go_wp2
          obtain ⟨hg, hb⟩ := hT5.ret i ((j : Int) + 1) 0 (-1) false
          exact ret_mv (r := ⟨i, ((j : Int) + 1), 0, false, -1, true⟩) (g := w.heap.size + 1) rfl rfl rfl rfl hg ⟨rfl, hb⟩
      rw [show seekAt s m x N key = none from by unfold seekAt; rw [if_neg (by omega), if_neg (by omega)]]
      rw [show seekRes i key none = R.no from rfl]
      have k1 : (key == 102) = false := by rw [beq_eq_false_iff_ne]; exact hk102
      have k2 : (key == 116) = false := by rw [beq_eq_false_iff_ne]; exact hk116
      have k3 : (key == 70) = false := by rw [beq_eq_false_iff_ne]; exact hk70
      have k4 : (key == 84) = false := by rw [beq_eq_false_iff_ne]; exact hk84
      clear hk102 hk116 hk70 hk84 hfa hbe hxc h2
      go_enter Try.func25, Try.ntmps25
      go_wp2_with fail
      rw [← HX.out]
      refine (h1).mono ?_
      rintro e w1 ⟨rfl, hb_w1⟩
      have hT1 := hT.on hb_w1
      clear p0 p1 m0 m1 m2 m3 m4 z h1
      have p0 := hT1.pos.c0
      have p1 := hT1.pos.c1
      have m0 := hT1.mv.c0
      have m1 := hT1.mv.c1
      have m2 := hT1.mv.c2
      have m3 := hT1.mv.c3
      have m4 := hT1.mv.c4
      have z := hT1.mv.z
      have hc1 := cell_later (hT.below.trans (hb_w1.mono hT.below.size)) hcell
      clear hT hcell
      go_wp2
      obtain ⟨hg, hb⟩ := hT1.ret 0 0 0 0 false
      exact ret_mv (r := R.no) (g := w.heap.size + 1) rfl rfl rfl rfl hg ⟨rfl, hb⟩
    · have hr : (seekR ls l c key x k) = R.no := if_neg fun hh => hk hh.2
      rw [hr]
      have hk1 : k < 1 := by omega
      clear hr h hs hX hp hk
      go_enter Try.func25, Try.ntmps25
      go_wp2_with fail
      rw [← HX.out]
      refine (h1).mono ?_
      rintro e w1 ⟨rfl, hb_w1⟩
      have hT1 := hT.on hb_w1
      clear p0 p1 m0 m1 m2 m3 m4 z h1 hT
      have p0 := hT1.pos.c0
      have p1 := hT1.pos.c1
      have m0 := hT1.mv.c0
      have m1 := hT1.mv.c1
      have m2 := hT1.mv.c2
      have m3 := hT1.mv.c3
      have m4 := hT1.mv.c4
      have z := hT1.mv.z
      go_wp2
      obtain ⟨hg, hb⟩ := hT1.ret 0 0 0 0 false
      exact ret_mv (r := R.no) (g := w.heap.size + 1) rfl rfl rfl rfl hg ⟨rfl, hb⟩
  · rw [decide_eq_false hp] at h1
    have hr : (seekR ls l c key x k) = R.no := if_neg fun hh => hp hh.1
    rw [hr]
    clear hr h hs hX hp
    go_enter Try.func25, Try.ntmps25
    go_wp2_with fail
    rw [← HX.out]
    refine (h1).mono ?_
    rintro e w1 ⟨rfl, hb_w1⟩
    have hT1 := hT.on hb_w1
    clear p0 p1 m0 m1 m2 m3 m4 z h1 hT
    have p0 := hT1.pos.c0
    have p1 := hT1.pos.c1
    have m0 := hT1.mv.c0
    have m1 := hT1.mv.c1
    have m2 := hT1.mv.c2
    have m3 := hT1.mv.c3
    have m4 := hT1.mv.c4
    have z := hT1.mv.z
    go_wp2
    obtain ⟨hg, hb⟩ := hT1.ret 0 0 0 0 false
    exact ret_mv (r := R.no) (g := w.heap.size + 1) rfl rfl rfl rfl hg ⟨rfl, hb⟩

end Go.Proofs.Ytaekgempoaoioaa.Ch
