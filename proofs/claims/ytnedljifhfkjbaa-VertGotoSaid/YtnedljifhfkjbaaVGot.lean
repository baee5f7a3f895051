/-
  The law VertGoto, walked.
-/
import Derived.Test.YtnedljifhfkjbaaVk
set_option linter.unusedVariables false
set_option linter.unusedSimpArgs false
set_option maxRecDepth 100000
namespace Go.Proofs.Ytnedljifhfkjbaa.VGot
open Go Go.RowKit Go.Proofs.Ytnedljifhfkjbaa.Vk Go.Proofs.Ytnedljifhfkjbaa.Str Go.Proofs.Ytnedljifhfkjbaa.Ln Go.Proofs.Ytnedljifhfkjbaa.Cl Go.Proofs.Ytnedljifhfkjbaa.Mv Go.Proofs.Ytnedljifhfkjbaa.Vt
attribute [local go_sem] Oper.semAt_some
set_option maxHeartbeats 4000000

theorem ne_pos (a b : Int) (W : World) : (binOp .neq 24 (.agg #[.int .i64 a, .int .i64 b]) (.agg #[.int .i64 a, .int .i64 b])).run Try.prog W = .ok (.bool false) W := by
  have hS : Try.prog.underlying 24 = some (.struct (Try.prog.fieldsOf 24)) := by kernel_rfl
  have hp : Try.prog.stoodInHeld 24 = false := by kernel_rfl
  rw [run_neq_struct, show (10000 : Nat) = 9999 + 1 from rfl, run_equalIn_agg W 9999 24 _ _ hS hp]
  simp only [Program.fieldsOf, Try.underlying24]
  go_simp
theorem plc_zero {ls : List ByteArray} (h : 0 < ls.length) : Plc ls 0 0 := ⟨by omega, by omega, by omega, by omega⟩
theorem goto_in {ls : List ByteArray} {t : Nat} (h : t < ls.length) : mayR ls 0 0 ((t : Int) + 1) (lineR ls ((t : Int) + 1 - 1) true) = ⟨t, fst (lineAt ls t), 2, true, -1, true⟩ := by
  unfold mayR
  rw [if_pos ⟨plc_zero (by omega), by omega⟩, show (t : Int) + 1 - 1 = t by omega]
  unfold lineR
  rw [if_pos ⟨by omega, by omega⟩, Int.toNat_natCast]
theorem goto_ok {ls : List ByteArray} {q : Int} (h : 0 < ls.length) : (mayR ls 0 0 q (lineR ls (q - 1) true)).ok = decide (1 ≤ q ∧ q ≤ ls.length) := by
  unfold mayR
  by_cases h1 : 1 ≤ q
  · rw [if_pos ⟨plc_zero h, h1⟩]
    unfold lineR
    by_cases h2 : q ≤ ls.length
    · rw [if_pos (by omega), decide_eq_true ⟨h1, h2⟩]
    · rw [if_neg (by omega), decide_eq_false (fun hh => h2 hh.2)]; rfl
  · rw [if_neg (fun hh => h1 hh.2), decide_eq_false (fun hh => h1 hh.1)]; rfl

theorem walk (a : Option Addr) (n c' : Nat) (ls : List ByteArray) (q : Int) (w : World) (h : Ss w a n c' ls) (hs : ∀ s ∈ ls, s.size ≤ 140737488355328) (hq0 : (Lit.int .i64 q).wf = true) :
    Calls Try.prog 6 #[.slice a n c', .int .i64 q] w fun e w' => e = .returned (.bool true) ∧ Below w.heap.size w w' := by
  have hk := known_any w
  have q2 : -9223372036854775808 ≤ q ∧ q ≤ 9223372036854775807 := by simpa [Lit.wf, IntKind.min, IntKind.max, IntKind.signed, IntKind.bits] using hq0
  go_enter Try.func6, Try.ntmps6
  go_wp2_with fail
  refine hk.mono ?_
  rintro e w1 ⟨rfl, hb1⟩
  have htx := text_any a n c' ls w1 (SrcV.below h hb1) hs
  have HS1 := Lib.hid (SrcV.below h hb1)
  have HB1 := Lib.hid hb1
  clear hk hb1 h
  go_wp2_with fail
  refine htx.mono ?_
  rintro e w' ⟨qq, rfl, rfl, hq⟩
  clear htx
  cases qq
  · clear hq
    go_wp2
    go_ret
    exact ⟨rfl, HB1.out⟩
  obtain ⟨hn0, hn40, hz, _⟩ := hq rfl
  clear hq
  have hlen := Ss.length HS1.out
  obtain ⟨bs, os, ha, _⟩ := Ss.read HS1.out 0 (by omega)
  subst ha
  go_wp2
  go_loopw [5] (fun i ws => ∃ t : Nat, t ≤ n ∧ i = .int .i64 t ∧ Hid (Below w1.heap.size w1 ws)) (fun i _ => n - (RowKit.intOf i).toNat)
  case atStart => exact ⟨0, by omega, rfl, Below.refl _ _⟩
  case round =>
    obtain ⟨t, htn, rfl, D⟩ := hrel
    by_cases ht : t < n
    · obtain ⟨b', o', ha', hcell, hnc, _⟩ := Ss.read HS1.out t (by omega)
      simp only [Option.some.injEq, Addr.mk.injEq, and_true] at ha'
      obtain ⟨rfl, rfl⟩ := ha'
      rw [← lineAt_get (by omega)] at hcell
      have hsz : (lineAt ls t).size ≤ 140737488355328 := by rw [lineAt_get (by omega)]; exact hs _ (List.getElem_mem _)
      have ew := fun hh => show IntKind.i64.wrap ((t : Int) + 1) = (t : Int) + 1 by rw [IntKind.wrap_i64]; exact hh
      have ew := ew (by omega)
      have c1 := fun W (hW : Below w1.heap.size w1 W) => goto_any _ n c' ls 0 0 ((t : Int) + 1) W (SrcV.below HS1.out hW) hs (by omega) (by omega)
      rw [goto_in (by omega)] at c1
      have hcl := fun W (hW : Below w1.heap.size w1 W) => cell_later hW hcell
      clear hcell hnc
      generalize lineAt ls t = s at *
      go_wp2_with fail
      refine (c1 _ D.out).mono ?_
      rintro e v1 ⟨rfl, hb⟩
      have D := Lib.hid (below_on D.out hb)
      clear hb c1
      go_upto_region 9 with fail
      obtain ⟨x2, hx2⟩ : ∃ x2, x2 = v1.alloc (.cells #[.int .i64 (t : Int), .int .i64 (fst s : Int), .int .i64 2, .bool true, .int .i64 (-1)] 32) := ⟨_, rfl⟩
      have hA : Below v1.heap.size v1 x2 := by rw [hx2]; exact (Below.refl _ v1).alloc (Nat.le_refl _) _
      have hV := MvAt.new v1 (t : Int) (fst s : Int) 2 (-1) true
      rw [← hx2] at hV ⊢
      have gg_D := D.out.size
      have D := Lib.hid (below_on D.out hA)
      obtain ⟨b_V, hbf⟩ : ∃ b, b = v1.heap.size := ⟨_, rfl⟩
      rw [← hbf] at hV ⊢
      have g_V_D := Lib.hid (show w1.heap.size ≤ b_V by rw [hbf]; exact gg_D)
      clear gg_D
      have V := Lib.hid hV
      clear hV hA hx2 hbf
      have c_V := V.out
      have V0 := c_V.c0
      have V1 := c_V.c1
      have V2 := c_V.c2
      have V3 := c_V.c3
      have V4 := c_V.c4
      clear c_V
      have hc := hcl _ D.out
      clear hcl
      have he := fun W => ne_pos t (fst s) W
      have f_V0 := fun z : Gr x2 => z.cell V0
      have f_V1 := fun z : Gr x2 => z.cell V1
      have f_V2 := fun z : Gr x2 => z.cell V2
      have f_V3 := fun z : Gr x2 => z.cell V3
      have f_hc := fun z : Gr x2 => z.cell hc
      have g5 := fun z : Gr x2 => first5_any s z.W (by omega)
      clear V0 V1 V2 V3 V4
      clear hc
      refine wp_region_grow (by kernel_rfl) (by kernel_rfl) ?_
      repeat (go_big_quiet_step (first | (go_at_call 25; exact Calls.grow_of_same (g5 _))))
      refine wpQuiet_nil ?_
      rintro w3 ⟨⟨_, hb_w3⟩, rfl⟩
      have D := Lib.hid (below_on D.out hb_w3)
      clear hb_w3 he g5 f_V0 f_V1 f_V2 f_V3 f_hc
      go_wp2
      go_roundw
      case rel => exact ⟨t + 1, by omega, by go_num, D⟩
      case measure => simp [RowKit.intOf]; omega
    · obtain rfl : t = n := by omega
      have c1 := fun W (hW : Below w1.heap.size w1 W) => goto_any _ t c' ls 0 0 q W (SrcV.below HS1.out hW) hs (by omega) q2.2
      have hok := goto_ok (ls := ls) (q := q) (by omega)
      obtain ⟨r, hr⟩ : ∃ r, r = mayR ls 0 0 q (lineR ls (q - 1) true) := ⟨_, rfl⟩
      rw [← hr] at c1 hok
      clear hr
      by_cases h1 : 1 ≤ q
      · have d1 : decide (1 ≤ q) = true := decide_eq_true h1
        by_cases h2 : q ≤ (t : Int)
        · have hok : r.ok = true := by rw [hok]; exact decide_eq_true ⟨h1, by omega⟩
          simp only [R.v, hok] at c1
          clear hok
          have d2 : decide (q ≤ (t : Int)) = true := decide_eq_true h2
          go_wp2_with fail
          refine (c1 _ D.out).mono ?_
          rintro e v1 ⟨rfl, hb⟩
          have D := Lib.hid (below_on D.out hb)
          clear hb c1
          go_upto_region 12 with fail
          obtain ⟨x2, hx2⟩ : ∃ x2, x2 = v1.alloc (.cells #[.int .i64 r.l, .int .i64 r.c, .int .i64 r.way, .bool r.j, .int .i64 r.want] 32) := ⟨_, rfl⟩
          have hA : Below v1.heap.size v1 x2 := by rw [hx2]; exact (Below.refl _ v1).alloc (Nat.le_refl _) _
          have hV := MvAt.new v1 r.l r.c r.way r.want r.j
          rw [← hx2] at hV ⊢
          have gg_D := D.out.size
          have D := Lib.hid (below_on D.out hA)
          obtain ⟨b_V, hbf⟩ : ∃ b, b = v1.heap.size := ⟨_, rfl⟩
          rw [← hbf] at hV ⊢
          have g_V_D := Lib.hid (show w1.heap.size ≤ b_V by rw [hbf]; exact gg_D)
          clear gg_D
          have V := Lib.hid hV
          clear hV hA hx2 hbf
          have c_V := V.out
          have V0 := c_V.c0
          have V1 := c_V.c1
          have V2 := c_V.c2
          have V3 := c_V.c3
          have V4 := c_V.c4
          clear c_V
          go_wp2
          go_ret
          exact ⟨rfl, below_on HB1.out D.out⟩
        · have hok : r.ok = false := by rw [hok]; exact decide_eq_false (by omega)
          simp only [R.v, hok] at c1
          clear hok
          have d2 : decide (q ≤ (t : Int)) = false := decide_eq_false h2
          go_wp2_with fail
          refine (c1 _ D.out).mono ?_
          rintro e v1 ⟨rfl, hb⟩
          have D := Lib.hid (below_on D.out hb)
          clear hb c1
          go_upto_region 12 with fail
          obtain ⟨x2, hx2⟩ : ∃ x2, x2 = v1.alloc (.cells #[.int .i64 r.l, .int .i64 r.c, .int .i64 r.way, .bool r.j, .int .i64 r.want] 32) := ⟨_, rfl⟩
          have hA : Below v1.heap.size v1 x2 := by rw [hx2]; exact (Below.refl _ v1).alloc (Nat.le_refl _) _
          have hV := MvAt.new v1 r.l r.c r.way r.want r.j
          rw [← hx2] at hV ⊢
          have gg_D := D.out.size
          have D := Lib.hid (below_on D.out hA)
          obtain ⟨b_V, hbf⟩ : ∃ b, b = v1.heap.size := ⟨_, rfl⟩
          rw [← hbf] at hV ⊢
          have g_V_D := Lib.hid (show w1.heap.size ≤ b_V by rw [hbf]; exact gg_D)
          clear gg_D
          have V := Lib.hid hV
          clear hV hA hx2 hbf
          have c_V := V.out
          have V0 := c_V.c0
          have V1 := c_V.c1
          have V2 := c_V.c2
          have V3 := c_V.c3
          have V4 := c_V.c4
          clear c_V
          go_wp2
          go_ret
          exact ⟨rfl, below_on HB1.out D.out⟩
      · have d1 : decide (1 ≤ q) = false := decide_eq_false h1
        have hok : r.ok = false := by rw [hok]; exact decide_eq_false (by omega)
        simp only [R.v, hok] at c1
        clear hok
        clear h1
        go_wp2_with fail
        refine (c1 _ D.out).mono ?_
        rintro e v1 ⟨rfl, hb⟩
        have D := Lib.hid (below_on D.out hb)
        clear hb c1
        go_upto_region 12 with fail
        obtain ⟨x2, hx2⟩ : ∃ x2, x2 = v1.alloc (.cells #[.int .i64 r.l, .int .i64 r.c, .int .i64 r.way, .bool r.j, .int .i64 r.want] 32) := ⟨_, rfl⟩
        have hA : Below v1.heap.size v1 x2 := by rw [hx2]; exact (Below.refl _ v1).alloc (Nat.le_refl _) _
        have hV := MvAt.new v1 r.l r.c r.way r.want r.j
        rw [← hx2] at hV ⊢
        have gg_D := D.out.size
        have D := Lib.hid (below_on D.out hA)
        obtain ⟨b_V, hbf⟩ : ∃ b, b = v1.heap.size := ⟨_, rfl⟩
        rw [← hbf] at hV ⊢
        have g_V_D := Lib.hid (show w1.heap.size ≤ b_V by rw [hbf]; exact gg_D)
        clear gg_D
        have V := Lib.hid hV
        clear hV hA hx2 hbf
        have c_V := V.out
        have V0 := c_V.c0
        have V1 := c_V.c1
        have V2 := c_V.c2
        have V3 := c_V.c3
        have V4 := c_V.c4
        clear c_V
        go_wp2
        go_ret
        exact ⟨rfl, below_on HB1.out D.out⟩
end Go.Proofs.Ytnedljifhfkjbaa.VGot
