/-
  Package regs: Size, register, clone; slices.Clone, slices.Grow of nil, slices.Concat of strings.
-/
import Derived.Test.YtgfajagajiofnaaRv
import Derived.Test.YtgfajagajiofnaaQf
import Derived.Lib.AppendZeros
set_option linter.unusedVariables false
set_option linter.unusedSimpArgs false
set_option maxRecDepth 100000
namespace Go.Proofs.Ytgfajagajiofnaa.Rg
open Go Go.RowKit Go.Proofs.Ytgfajagajiofnaa.Vk Go.Proofs.Ytgfajagajiofnaa.Str Go.Proofs.Ytgfajagajiofnaa.Ln Go.Proofs.Ytgfajagajiofnaa.Cl Go.Proofs.Ytgfajagajiofnaa.Rl
attribute [local go_sem] Oper.semAt_some

theorem cell_one {w : World} {p : Addr} {v : Value} (h : w.cell? p = some v) (O : Obj) : (w.alloc O).cell? p = some v :=
  cell_later ((Below.refl _ w).alloc (Nat.le_refl _) O) h
theorem one_below (w : World) (O : Obj) : Below w.heap.size w (w.alloc O) := (Below.refl _ _).alloc (Nat.le_refl _) O

/-- A register is handed back; a register and a bool. -/
def RgOut (w : World) (B : Nat) (g : G) (e : Ending) (w' : World) : Prop := ∃ x : R, e = .returned (rv x) ∧ El w' B x g ∧ Below w.heap.size w w'
def RbOut (w : World) (B : Nat) (g : G) (q : Bool) (e : Ending) (w' : World) : Prop := ∃ x : R, e = .returned (.tuple #[rv x, .bool q]) ∧ El w' B x g ∧ Below w.heap.size w w'

theorem rsize_any (k : Int) (a : Option Addr) (n c : Nat) (ls : List ByteArray) (w : World) (h : Ss w a n c ls) (hs : tz ls ≤ 4000000000000000000) :
    Calls Try.prog 26 #[.agg #[.int .i64 k, .slice a n c]] w fun e w' => e = .returned (.int .i64 (tz ls)) ∧ Below w.heap.size w w' := by
  have hz := size_any a n c ls (w.alloc (.cells #[.int .i64 k, .slice a n c] TR)) (SrcV.below h (one_below _ _)) hs
  clear h
  go_enter Try.func26, Try.ntmps26
  go_wp2_with fail
  refine hz.mono ?_
  rintro e w' ⟨rfl, rfl⟩
  clear hz
  go_wp2
  go_ret
  exact ⟨rfl, one_below _ _⟩

theorem register_any (c : Nat) (w : World) (hc : c < 256) : Calls Try.prog 31 #[.int .u8 (c : Int)] w fun e w' => e = .returned (.int .u8 (reg c : Int)) ∧ w = w' := by
  unfold reg
  by_cases h0 : c = 0
  · subst h0
    go_enter Try.func31, Try.ntmps31
    go_wp2
    go_ret
    exact ⟨rfl, rfl⟩
  · have e0 : ((c : Int) == 0) = false := by rw [beq_eq_false_iff_ne]; omega
    rw [if_neg h0]
    by_cases h1 : 65 ≤ c ∧ c ≤ 90
    · rw [if_pos h1]
      have e1 : (65 : Int) ≤ (c : Int) := by omega
      have e2 : (c : Int) ≤ 90 := by omega
      have v1 : IntKind.u8.wrap ((c : Int) - 65) = (c : Int) - 65 := by rw [IntKind.wrap_u8]; omega
      have v2 : IntKind.u8.wrap ((c : Int) - 65 + 97) = (c : Int) - 65 + 97 := by rw [IntKind.wrap_u8]; omega
      have HV := Lib.hid (show ((c : Int) - 65 + 97) = ((c + 32 : Nat) : Int) by omega)
      clear h0 h1
      go_enter Try.func31, Try.ntmps31
      go_wp2
      go_ret
      exact ⟨by rw [HV.out]; rfl, rfl⟩
    · rw [if_neg h1]
      clear h0
      by_cases h2 : 65 ≤ c
      · have e1 : (65 : Int) ≤ (c : Int) := by omega
        have e2 : ¬ (c : Int) ≤ 90 := by omega
        clear h1 h2
        go_enter Try.func31, Try.ntmps31
        go_wp2
        go_ret
        exact ⟨rfl, rfl⟩
      · have e1 : ¬ (65 : Int) ≤ (c : Int) := by omega
        clear h1 h2
        go_enter Try.func31, Try.ntmps31
        go_wp2
        go_ret
        exact ⟨rfl, rfl⟩

/-- slices.Clone of strings. -/
theorem clone_any (a : Option Addr) (n c : Nat) (ls : List ByteArray) (w : World) (k : Int) (B : Nat) (h : Ss w a n c ls) (hn : n ≤ 1000000) : Calls Try.prog 36 #[.slice a n c] w fun e w' =>
    ∃ s : Sl, e = .returned (sv s) ∧ El w' B (k, s) (k, ls) ∧ Below w.heap.size w w' := by
  obtain ⟨i0, hi0, hz0, hz1, hz2⟩ := info_parts infoS
  have hlen := h.length
  cases a with
  | none =>
    obtain ⟨rfl, rfl⟩ : n = 0 ∧ c = 0 := by
      obtain ⟨_, _, _, ⟨ao, he, h0⟩ | ⟨b, o, c', he, _⟩⟩ := h
      · injection he with _ e2 e3; exact ⟨e2, e3⟩
      · cases he
    have HH := Lib.hid h
    have hcmp : ∀ W : World, (binOp .eql 31 (.slice none 0 0) (.slice none 0 0)).run Try.prog W = .ok (.bool true) W := fun W => by kernel_rfl
    clear h
    go_enter Try.func36, Try.ntmps36
    go_wp2
    go_ret
    exact ⟨(none, 0, 0), rfl, ⟨rfl, HH.out, fun h => absurd h (Nat.lt_irrefl _)⟩, Below.refl _ _⟩
  | some ad =>
    have HH := Lib.hid h
    clear h
    obtain ⟨X, hX⟩ : ∃ X, X = w.alloc (.cells #[] ES) := ⟨_, rfl⟩
    have hbX : Below w.heap.size w X := by rw [hX]; exact (Below.refl _ w).alloc (Nat.le_refl _) _
    have hown : X.ownsRow w.heap.size ES 1 (.slice (some ⟨w.heap.size, 0, none⟩) 0 0) 0 [] := by
      rw [hX]
      exact ⟨rfl, .inr ⟨w.heap.size, 0, #[], rfl, Nat.le_refl _, heap_alloc_new w _, Nat.le_refl _, by simp [maxLen], rfl, rfl⟩⟩
    have HO := Lib.hid (And.intro hX (And.intro hbX hown))
    have hsrc := Lib.hid (SrcV.below HH.out hbX)
    have hXs : w.heap.size ≤ X.heap.size := hbX.size
    have hcmp : ∀ W : World, (binOp .eql 31 (.slice (some ad) n c) (.slice none 0 0)).run Try.prog W = .ok (.bool false) W := fun W => by kernel_rfl
    clear hX hbX hown
    go_enter Try.func36, Try.ntmps36
    go_wp2_with (at_builtin; rw [← HO.out.1]; go_must (refine append_srcv _ rfl _ _ 31 rfl w.heap.size ES i0 (.string ⟨#[]⟩) 1 16 underS hi0 hz0 hz1 hz2 rfl (by decide) _ 0 [] rfl HO.out.2.2 _ n (ls.map .string) rfl hsrc.out (by simp only [maxLen]; omega) (by omega) hXs ?_); intro ob oc w2 hown hg hnr; have HO2 := Lib.hid (And.intro hown hg); clear hown hg hnr)
    go_ret
    obtain ⟨hown, hg⟩ := HO2.out
    simp only [Nat.zero_add, List.nil_append] at hown ⊢
    refine ⟨(ob, n, oc), rfl, El.own hown, ?_⟩
    exact HO.out.2.1.grown hg HO.out.2.1.size (fun k e => by simp [Value.ownBlock, Act.eval] at e; omega)

theorem RegAt.ro {w : World} {B g : Nat} {x : R} (h : RegAt w g x) (hB : B ≤ g) : ¬ Ro w B g := fun hr => by
  rcases hr with hr | ⟨cs, fr, hr⟩
  · omega
  · have h' := h
    unfold RegAt at h'
    rw [h'] at hr
    simp only [Option.some.injEq, Obj.cells.injEq] at hr
    exact absurd hr.2.1 (by decide)
/-- clone of a register. -/
theorem rclone_any (k : Int) (a : Option Addr) (n c : Nat) (g : G) (w : World) (B : Nat) (h : El w B (k, a, n, c) g) (hn : n ≤ 1000000) (hB : B ≤ w.heap.size) : Calls Try.prog 33 #[.agg #[.int .i64 k, .slice a n c]] w fun e w' => RgOut w B g e w' := by
  obtain ⟨k', ls⟩ := g
  obtain ⟨rfl, h1, h2⟩ := h
  simp only at h1
  obtain ⟨w2, hw2⟩ : ∃ w2, w2 = (w.alloc (.cells #[.int .i64 k, .slice a n c] TR)).alloc (.cells #[.int .i64 0, .slice none 0 0] TR) := ⟨_, rfl⟩
  have hb2 : Below w.heap.size w w2 := by rw [hw2]; exact below_on (one_below _ _) (one_below _ _)
  have hp : RegAt w2 w.heap.size (k, a, n, c) := by
    rw [hw2]
    exact (RegAt.new w (k, a, n, c)).below (one_below _ _) (by simp)
  have hq : RegAt w2 (w.heap.size + 1) (0, none, 0, 0) := by
    rw [hw2]
    have h := RegAt.new (w.alloc (.cells #[.int .i64 k, .slice a n c] TR)) (0, none, 0, 0)
    rw [show (w.alloc (.cells #[.int .i64 k, .slice a n c] TR)).heap.size = w.heap.size + 1 by simp] at h
    exact h
  have hcl := fun W (hb : Below w2.heap.size w2 W) => clone_any a n c ls W k B (SrcV.below h1 (below_on hb2 hb)) hn
  have HW := Lib.hid (And.intro hw2 (And.intro hb2 hq))
  have p0 := hp.c0
  have p1 : w2.cell? ⟨w.heap.size, 1, none⟩ = some (.slice a n c) := hp.c1
  clear hw2 hb2 hq hp h1 h2
  go_enter Try.func33, Try.ntmps33
  go_wp2_with fail
  rw [← HW.out.1]
  have F_0 := fun (C : World → Prop) (hC : Grows w2 C) (z : In C) => hC.cell p0 z
  have F_1 := fun (C : World → Prop) (hC : Grows w2 C) (z : In C) => hC.cell p1 z
  refine wp_region_seg [0, 1, 2, 3] [(4, 1), (5, 2), (6, 3)] (by kernel_rfl) (by kernel_rfl) 9 rfl (by kernel_rfl) ?_
  simp only [List.map_cons, List.map_nil, opOf_succ, opOf_zero]
  apply Exists.intro
  refine ⟨fun C hC => ?_, ?_⟩
  · haveI hI := hC.one
    have f_0 := F_0 C hC
    have f_1 := F_1 C hC
    repeat (go_big_quiet_step (fail))
    exact wpQuiet_nil rfl
  clear F_0 F_1
  refine wpPath_call (f := 36) (args := #[.slice a n c]) rfl rfl (fun W => by simp only [opOf_succ, opOf_zero]; go_simp) ?_
  intro A1 hA1
  refine (hcl _ hA1).mono ?_
  rintro e A2 ⟨s, rfl, hel, hA2⟩
  refine ⟨_, rfl, hA2, ?_⟩
  simp only [opOf_succ, opOf_zero, Act.put, List.setIfInBounds_toArray, List.set_cons_zero, List.set_cons_succ]
  clear hcl
  refine wpPath_free (v := rv (k, s)) rfl rfl (fun W => by simp only [opOf_succ, opOf_zero]; go_simp; rfl) ?_
  simp only [opOf_succ, opOf_zero, Act.put, List.setIfInBounds_toArray, List.set_cons_zero, List.set_cons_succ]
  refine wpPath_store rfl fun A3 hA3 => ?_
  have hb3 := below_on hA1 (below_on hA2 hA3)
  have hq3 := HW.out.2.2.below hb3 HW.out.2.2.lt
  have m0 := hq3.c0
  have m1 := hq3.c1
  have z := hq3.z
  refine ⟨(A3.setCell ⟨w.heap.size + 1, 0, none⟩ (.int .i64 k)).setCell ⟨w.heap.size + 1, 1, none⟩ (sv s), rfl, by simp only [opOf_succ, opOf_zero, rv, sv]; go_simp, ?_⟩
  simp only [opOf_succ, opOf_zero, Act.put, List.setIfInBounds_toArray, List.set_cons_zero, List.set_cons_succ]
  refine wpPath_end fun A4 hA4 => ?_
  have hset := (hq3.set (k, s)).below hA4 (by have := hq3.lt; simpa [World.setCell] using this)
  have hlt : w.heap.size ≤ w.heap.size + 1 := by omega
  have hBB := (((HW.out.2.1.trans (hb3.mono HW.out.2.1.size)).setCell (p := ⟨w.heap.size + 1, 0, none⟩) hlt (.int .i64 k)).setCell (p := ⟨w.heap.size + 1, 1, none⟩) hlt (sv s)).trans (hA4.mono (by have := (HW.out.2.1.trans (hb3.mono HW.out.2.1.size)).size; simpa [World.setCell] using this))
  have hf := (((Fr.refl (fun j => j = w.heap.size + 1) A3).setCell (p := ⟨w.heap.size + 1, 0, none⟩) (fun _ => rfl) (.int .i64 k)).setCell (p := ⟨w.heap.size + 1, 1, none⟩) (fun _ => rfl) (sv s)).trans (Fr.ofBelow hA4 (fun j => j = w.heap.size + 1))
  have HE := Lib.hid (And.intro hset (And.intro ((hel.below hA3).fr hf (fun j hj hr => hq3.ro (by omega) (hj ▸ hr))) hBB))
  clear hset hBB hf m0 m1 z hq3 hb3 hel hA1 hA2 hA3 hA4 p0 p1
  go_wp2
  exact ret_rg (g := w.heap.size + 1) rfl rfl rfl HE.out.1 ⟨_, rfl, HE.out.2.1, HE.out.2.2⟩

/-- slices.Grow of nil: a row of one's own with nothing in it. -/
theorem grow_any (n : Nat) (w : World) (hn : n ≤ 1000000) : Calls Try.prog 37 #[.slice none 0 0, .int .i64 (n : Int)] w fun e w' =>
    ∃ a c, e = .returned (.slice a 0 c) ∧ w'.ownsRow w.heap.size ES 1 (.slice a 0 c) 0 [] ∧ Below w.heap.size w w' := by
  obtain ⟨i0, hi0, hz0, hz1, hz2⟩ := info_parts infoS
  by_cases h0 : n = 0
  · subst h0
    go_enter Try.func37, Try.ntmps37
    go_wp2
    go_ret
    exact ⟨none, 0, rfl, World.ownsRow_nil _ _ _ _, Below.refl _ _⟩
  · have hap := Lib.run_append_nil_zeros (P := Try.prog) w 31 3 31 ES i0 (.string ⟨#[]⟩) .i64 .i64 Try.underlying31 Try.underlying3 hi0 hz0 n (by omega) (by rw [hz1]; decide) (by omega) (by rw [hz2]; omega)
    have hge := grownCap_ge w n 0 ES
    have hle := grownCap_le_maxLen w n 0 ES (by unfold maxLen; omega)
    obtain ⟨cp, hcp⟩ : ∃ cp, cp = grownCap w n 0 ES := ⟨_, rfl⟩
    rw [← hcp] at hap hge hle
    obtain ⟨Z, hZ⟩ : ∃ Z, Z = Builtin.zeroCells (Value.string ⟨#[]⟩).cells n ++ Builtin.zeroCells (Value.string ⟨#[]⟩).cells (cp - n) := ⟨_, rfl⟩
    have hZs : Z.size = cp := by rw [hZ]; simp [Builtin.zeroCells, Value.cells]; omega
    rw [← hZ] at hap
    have HR := Lib.hid (And.intro hZs hle)
    have e1 : ¬ ((n : Int) < 0) := by omega
    have e2 : (0 : Int) < (n : Int) := by omega
    have e3 : IntKind.i64.wrap (n : Int) = (n : Int) := by rw [IntKind.wrap_i64]; omega
    clear hcp hZ hZs hle h0
    go_enter Try.func37, Try.ntmps37
    go_wp2_with (at_builtin; refine Lib.wpList_append_run _ rfl _ _ _ _ rfl _ _ rfl rfl _ _ hap ?_)
    go_ret
    refine ⟨some ⟨w.heap.size, 0, none⟩, cp, rfl, ⟨rfl, .inr ⟨w.heap.size, cp, Z, rfl, Nat.le_refl _, heap_alloc_new w.drew _, Nat.zero_le _, HR.out.2, by rw [HR.out.1]; omega, rfl⟩⟩, (Below.refl _ w).drew.alloc (Nat.le_refl _) _⟩

/-- The lines of some slices, one behind another. -/
def cat (xs : List (Sl × List ByteArray)) : List ByteArray := xs.flatMap (·.2)
theorem cat_next {xs : List (Sl × List ByteArray)} {j : Nat} (h : j < xs.length) : cat (xs.take (j + 1)) = cat (xs.take j) ++ xs[j].2 := by
  unfold cat
  rw [List.take_succ_eq_append_getElem h, List.flatMap_append]
  simp
theorem cat_le (xs : List (Sl × List ByteArray)) (j : Nat) : (cat (xs.take j)).length ≤ (cat xs).length := by
  conv => rhs; rw [← List.take_append_drop j xs]
  unfold cat
  rw [List.flatMap_append, List.length_append]
  omega

set_option maxHeartbeats 1000000 in
theorem concat_any (A : Option Addr) (M C : Nat) (xs : List (Sl × List ByteArray)) (w : World) (h : SrcV w 1 (.slice A M C) M (xs.map fun x => sv x.1)) (hx : ∀ x ∈ xs, Ss w x.1.1 x.1.2.1 x.1.2.2 x.2) (hn : (cat xs).length ≤ 1000000) :
    Calls Try.prog 34 #[.slice A M C] w fun e w' => ∃ s : Sl, e = .returned (sv s) ∧ w'.ownsRow w.heap.size ES 1 (sv s) s.2.1 ((cat xs).map .string) ∧ Below w.heap.size w w' := by
  obtain ⟨i0, hi0, hz0, hz1, hz2⟩ := info_parts infoS
  have hxl : xs.length = M := by have := h.1; simpa using this
  have hM63 : M ≤ 9223372036854775807 := h.2.2.1
  have HX := Lib.hid (And.intro h (And.intro hx (And.intro hn hxl)))
  clear h hx hn hxl
  go_enter Try.func34, Try.ntmps34
  go_wp2
  go_loop [3, 5, 11] (fun u _ i => ∃ j N : Nat, j ≤ M ∧ i = .int .i64 j ∧ u = .int .i64 N ∧ Hid (N = (cat (xs.take j)).length)) (fun u _ i => M - (RowKit.intOf i).toNat)
  case atStart => exact ⟨0, 0, Nat.zero_le _, rfl, rfl, rfl⟩
  case round =>
    obtain ⟨j, N, hj, rfl, rfl, HN⟩ := hrel
    have hN : N ≤ 1000000 := by rw [HN.out]; exact Nat.le_trans (cat_le xs j) HX.out.2.2.1
    by_cases hjM : j < M
    · have hjx : j < xs.length := by have := HX.out.2.2.2; omega
      obtain ⟨b, o, hA, hc, hMC, _⟩ := HX.out.1.at (j := j) (u := sv xs[j].1) (by rw [List.getElem?_map, List.getElem?_eq_getElem hjx]; rfl)
      subst hA
      have hs := HX.out.2.1 xs[j] (List.getElem_mem hjx)
      have hnx := cat_next hjx
      have hle := cat_le xs (j + 1)
      generalize xs[j] = x at hc hs hnx
      obtain ⟨⟨ax, nx, cx⟩, lx⟩ := x
      simp only [sv] at hc hs hnx
      have hlx := Ss.length hs
      have hnx63 : N + nx ≤ 1000000 := by
        have h2 : (cat (xs.take (j + 1))).length = N + nx := by rw [hnx, List.length_append, ← HN.out, hlx]
        rw [← h2]
        exact Nat.le_trans hle HX.out.2.2.1
      have HN2 : Hid (N + nx = (cat (xs.take (j + 1))).length) := by show _ = _; rw [hnx, List.length_append, ← HN.out, hlx]
      have hw : IntKind.i64.wrap ((N : Int) + (nx : Int)) = (N : Int) + (nx : Int) := by rw [IntKind.wrap_i64]; omega
      have hneg : ¬ ((N : Int) + (nx : Int) < 0) := by omega
      clear hs hnx hle hlx HN
      go_wp2
      go_round
      case rel => exact ⟨j + 1, N + nx, by omega, by go_num, by go_num, HN2⟩
      case measure => simp [RowKit.intOf]; omega
    · obtain rfl : j = M := by omega
      have hg := grow_any N w hN
      clear hj
      go_wp2_with fail
      refine hg.mono ?_
      rintro e w1 ⟨ga, gc, rfl, hown, hb1⟩
      have HO := Lib.hid (And.intro hown hb1)
      clear hg hown hb1 HN hN hjM
      go_wp2
      go_loopw [6, 8, 27] (fun u _ i wr => ∃ (k N : Nat) (a : Option Addr) (c : Nat), k ≤ j ∧ u = .slice a N c ∧ i = .int .i64 k ∧ Hid (wr.ownsRow w.heap.size ES 1 (.slice a N c) N ((cat (xs.take k)).map .string) ∧ Below w.heap.size w wr)) (fun u _ i _ => j - (RowKit.intOf i).toNat)
      case atStart => exact ⟨0, 0, ga, gc, Nat.zero_le _, rfl, rfl, HO.out.1, HO.out.2⟩
      case round =>
        obtain ⟨k, N, a, c, hk, rfl, rfl, HW⟩ := hrel
        by_cases hkM : k < j
        · have hjx : k < xs.length := by have := HX.out.2.2.2; omega
          have hF := Fr.ofBelow HW.out.2 (fun _ => False)
          obtain ⟨b, o, hA, hc, hMC, _⟩ := (HX.out.1.fr hF (by simp)).at (j := k) (u := sv xs[k].1) (by rw [List.getElem?_map, List.getElem?_eq_getElem hjx]; rfl)
          subst hA
          have hs := SrcV.fr (HX.out.2.1 xs[k] (List.getElem_mem hjx)) hF (by simp)
          have hnx := cat_next hjx
          have hle := cat_le xs (k + 1)
          have hNl : N = (cat (xs.take k)).length := by have := HW.out.1.1; simpa using this.symm
          generalize xs[k] = x at hc hs hnx
          obtain ⟨⟨ax, nx, cx⟩, lx⟩ := x
          simp only [sv] at hc hs hnx
          have hlx := Ss.length hs
          have hnx63 : N + nx ≤ 1000000 := by
            have h2 : (cat (xs.take (k + 1))).length = N + nx := by rw [hnx, List.length_append, ← hNl, hlx]
            rw [← h2]
            exact Nat.le_trans hle HX.out.2.2.1
          have HS := Lib.hid (And.intro hs (show (cat (xs.take (k + 1))).map Value.string = (cat (xs.take k)).map Value.string ++ lx.map Value.string by rw [hnx, List.map_append]))
          clear hs hnx hle hlx hNl hF
          go_wp2_with (at_builtin; go_must (refine append_srcv _ rfl _ _ 31 rfl w.heap.size ES i0 (.string ⟨#[]⟩) 1 16 underS hi0 hz0 hz1 hz2 rfl (by decide) (.slice a N c) _ _ rfl HW.out.1 (.slice ax nx cx) nx (lx.map .string) rfl HS.out.1 (by simp only [maxLen]; omega) (by omega) HW.out.2.size ?_); intro ob oc V hown hg hnr; have HV := Lib.hid (And.intro hown (HW.out.2.grown hg HW.out.2.size (fun k e => (HW.out.1.lt k e).1))); clear hown hg hnr)
          go_roundw
          case rel => exact ⟨k + 1, N + nx, ob, oc, by omega, by go_num, by go_num, by rw [HS.out.2]; exact HV.out.1, HV.out.2⟩
          case measure => simp [RowKit.intOf]; omega
        · obtain rfl : k = j := by omega
          have ho := HW.out
          rw [List.take_of_length_le (by rw [HX.out.2.2.2]; exact Nat.le_refl _)] at ho
          have HF := Lib.hid ho
          clear ho HW
          go_wp2
          go_ret
          exact ⟨(a, N, c), rfl, HF.out.1, HF.out.2⟩
end Go.Proofs.Ytgfajagajiofnaa.Rg
