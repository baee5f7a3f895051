/-
  Registers held against one another; the package's and the document's; the chapter's example.
-/
import Derived.Test.YtgfajagajiofnaaRm
import Derived.Laws.BytesArg
set_option linter.unusedVariables false
set_option linter.unusedSimpArgs false
set_option maxRecDepth 100000
namespace Go.Proofs.Ytgfajagajiofnaa.Rg
open Go Go.RowKit Go.Proofs.Ytgfajagajiofnaa.Vk Go.Proofs.Ytgfajagajiofnaa.Str Go.Proofs.Ytgfajagajiofnaa.Ln Go.Proofs.Ytgfajagajiofnaa.Cl Go.Proofs.Ytgfajagajiofnaa.Rl
attribute [local go_sem] Oper.semAt_some

/-- Names as a text. -/
def strN (l : List Nat) : ByteArray := strOfNums (List.map (fun (c : Nat) => (c : Int)) l)
theorem conv_names {w : World} {a : Option Addr} {n c : Nat} {l : List Nat} (h : SrcV w 1 (.slice a n c) n (nbs l)) : (convert 27 9 (.slice a n c)).run Try.prog w = .ok (.string (strN l)) w := by
  have hl := h.1
  rw [length_nbs, Nat.mul_one] at hl
  rcases h.2.2.2 with ⟨ao, he, h0⟩ | ⟨b, off, c', he, h1, h2, hc⟩
  · injection he with e1 e2 e3
    obtain rfl : l = [] := List.eq_nil_of_length_eq_zero (by omega)
    subst h0 e3
    cases a with
    | none => exact run_convert_bytes_nil w 27 5 Try.underlying27 Try.underlying5 _ _ _ Try.underlying9
    | some ad =>
      rw [run_convert_bytes_string w _ _ _ _ _ _ Try.underlying27 Try.underlying5 Try.underlying9, run_bytesToString w ad 0 0 [] rfl]
      rfl
  · injection he with e1 e2 e3
    subst e1 e3
    refine run_convert_bytes_arg w 27 5 Try.underlying27 Try.underlying5 b off n c (List.map (fun (c : Nat) => (c : Int)) l) (by simp [hl]) (fun i hi => ?_) _ Try.underlying9
    have hi' : i < l.length := by omega
    rw [hc i (.int .u8 ((l[i] : Nat) : Int)) (by simp [nbs, hi'])]
    simp [List.getD, hi']
theorem ptr_nil (g : Nat) (W : World) : (binOp .eql 24 (.pointer (some ⟨g, 0, none⟩)) (.pointer none)).run Try.prog W = .ok (.bool false) W := by
  go_simp
theorem place_any (D : Int) (N F : Nat) (w : World) (h0 : 0 < N) (hN : N ≤ 1000000) (hF : (F : Int) = D % (N : Int)) :
    Calls Try.prog 13 #[.int .i64 D, .int .i64 N] w fun e w' => e = .returned (.int .i64 F) ∧ w = w' := by
  have h1 := Int.tmod_lt_of_pos D (b := (N : Int)) (by omega)
  have h2 := Int.lt_tmod_of_pos D (b := (N : Int)) (by omega)
  have h3 := Int.emod_nonneg D (b := (N : Int)) (by omega)
  have h4 := Int.emod_lt_of_pos D (b := (N : Int)) (by omega)
  have h5 := Int.tmod_eq_emod (a := D) (b := (N : Int))
  have h6 : D.tmod (N : Int) = (F : Int) ∨ D.tmod (N : Int) = (F : Int) - (N : Int) := by
    split at h5
    · exact .inl (by omega)
    · exact .inr (by omega)
  have hz : ((N : Int) == 0) = false := by rw [beq_eq_false_iff_ne]; omega
  have hz2 : ¬ N = 0 := by omega
  rw [← hF] at h3 h4
  obtain ⟨T, hT⟩ : ∃ T, D.tmod (N : Int) = T := ⟨_, rfl⟩
  rw [hT] at h1 h2 h6
  have hwT : IntKind.i64.wrap T = T := by rw [IntKind.wrap_i64]; omega
  clear hF h5
  by_cases hn : T < 0
  · have hw : IntKind.i64.wrap (T + (N : Int)) = (F : Int) := by rw [IntKind.wrap_i64]; omega
    have d0 : decide (T < 0) = true := decide_eq_true hn
    clear h1 h2 h3 h4 h6 h0 hN hn
    go_enter Try.func13, Try.ntmps13
    go_wp2
    go_ret
    exact ⟨rfl, rfl⟩
  · obtain rfl : T = (F : Int) := by omega
    have d0 : decide ((F : Int) < 0) = false := decide_eq_false (by omega)
    clear h1 h2 h3 h4 h6 h0 hN hn
    go_enter Try.func13, Try.ntmps13
    go_wp2
    go_ret
    exact ⟨rfl, rfl⟩
/-- The kind that a number stands for. -/
def kp (D : Int) : Int := (((D % 3).toNat : Nat) : Int)
theorem place3_any (D : Int) (w : World) : Calls Try.prog 13 #[.int .i64 D, .int .i64 3] w fun e w' => e = .returned (.int .i64 (kp D)) ∧ w = w' :=
  place_any D 3 (D % 3).toNat w (by omega) (by omega) (by have := Int.emod_nonneg D (b := 3) (by omega); omega)

theorem reg_any (k1 : Int) (a1 : Option Addr) (n1 c1 : Nat) (g : G) (k2 : Int) (a2 : Option Addr) (n2 c2 : Nat) (h : G) (w : World) (B : Nat) (hg : El w B (k1, a1, n1, c1) g) (hh : El w B (k2, a2, n2, c2) h) :
    Calls Try.prog 23 #[.agg #[.int .i64 k1, .slice a1 n1 c1], .agg #[.int .i64 k2, .slice a2 n2 c2]] w fun e w' => e = .returned (.bool (decide (g = h))) ∧ Below w.heap.size w w' := by
  obtain ⟨kg, lg⟩ := g
  obtain ⟨kh, lh⟩ := h
  obtain ⟨rfl, h1, _⟩ := hg
  obtain ⟨rfl, h2, _⟩ := hh
  simp only at h1 h2
  obtain ⟨w2, hw2⟩ : ∃ w2, w2 = (w.alloc (.cells #[.int .i64 k1, .slice a1 n1 c1] 33)).alloc (.cells #[.int .i64 k2, .slice a2 n2 c2] 33) := ⟨_, rfl⟩
  have hb2 : Below w.heap.size w w2 := by rw [hw2]; exact below_on (one_below _ _) (one_below _ _)
  have hst := strings_any a1 n1 c1 lg a2 n2 c2 lh w2 (SrcV.below h1 hb2) (SrcV.below h2 hb2)
  obtain ⟨q, hq⟩ : ∃ q, q = decide ((k1, lg) = (k2, lh)) := ⟨_, rfl⟩
  rw [← hq]
  have HW := Lib.hid (And.intro hw2 hb2)
  clear hw2 hb2 h1 h2
  by_cases hk : k1 = k2
  · subst hk
    have hq2 : q = decide (lg = lh) := by rw [hq]; exact decide_eq_decide.2 ⟨fun e => (Prod.mk.inj e).2, fun e => by rw [e]⟩
    rw [← hq2] at hst
    clear hq hq2
    go_enter Try.func23, Try.ntmps23
    go_wp2_with fail
    rw [← HW.out.1]
    refine hst.mono ?_
    rintro e w' ⟨rfl, m, rfl⟩
    clear hst
    go_wp2
    go_ret
    exact ⟨rfl, below_on HW.out.2 ⟨rfl, rfl, rfl, Nat.le_refl _, fun k _ => rfl⟩⟩
  · have hq2 : q = false := by rw [hq]; exact decide_eq_false fun e => hk (Prod.mk.inj e).1
    subst hq2
    have e1 : (k1 == k2) = false := by rw [beq_eq_false_iff_ne]; exact hk
    clear hq hk hst
    go_enter Try.func23, Try.ntmps23
    go_wp2
    go_ret
    rw [← HW.out.1]
    exact ⟨rfl, HW.out.2⟩
theorem reg_true {k1 : Int} {a1 : Option Addr} {n1 c1 : Nat} {g : G} {k2 : Int} {a2 : Option Addr} {n2 c2 : Nat} {w : World} {B : Nat} (hg : El w B (k1, a1, n1, c1) g) (hh : El w B (k2, a2, n2, c2) g) :
    Calls Try.prog 23 #[.agg #[.int .i64 k1, .slice a1 n1 c1], .agg #[.int .i64 k2, .slice a2 n2 c2]] w fun e w' => e = .returned (.bool true) ∧ Below w.heap.size w w' :=
  (reg_any k1 a1 n1 c1 g k2 a2 n2 c2 g w B hg hh).mono fun e w' h => by rw [decide_eq_true rfl] at h; exact h

/-! ### the chapter's example -/
def gX : G := (1, [⟨#[120]⟩])
def gY : G := (1, [⟨#[121]⟩])
def lX : ML G := [(34, gX), (49, gX)]
def lY : ML G := [(34, gY), (49, gY), (50, gX)]
theorem ok_lX : Ok lX := by
  have h := ok_cut ok_nil 0 gX
  rw [show (cut [] 0 gX).2 = lX from rfl] at h
  exact h
theorem ok_lY : Ok lY := by
  have h := ok_cut ok_lX 0 gY
  rw [show (cut lX 0 gY).2 = lY from rfl] at h
  exact h
/-- A register of one line that has just been laid. -/
abbrev rg1 (w : World) (k : Int) (s : ByteArray) : World := (w.alloc (.cells #[.string s] 9)).alloc (.cells #[.int .i64 k, .slice (some ⟨w.heap.size, 0, none⟩) 1 1] 33)
theorem one_reg (w : World) (B : Nat) (k : Int) (s : ByteArray) : Below w.heap.size w (rg1 w k s) ∧ RegAt (rg1 w k s) (w.heap.size + 1) (k, some ⟨w.heap.size, 0, none⟩, 1, 1) ∧ El (rg1 w k s) B (k, some ⟨w.heap.size, 0, none⟩, 1, 1) (k, [s]) ∧ (rg1 w k s).heap.size = w.heap.size + 1 + 1 := by
  refine ⟨below_on (one_below _ _) (one_below _ _), ?_, ?_, by simp⟩
  · have h := RegAt.new (w.alloc (.cells #[.string s] 9)) (k, some ⟨w.heap.size, 0, none⟩, 1, 1)
    rw [show (w.alloc (.cells #[.string s] 9)).heap.size = w.heap.size + 1 by simp] at h
    exact h
  · exact (show El (w.alloc (.cells #[.string s] 9)) B (k, some ⟨w.heap.size, 0, none⟩, 1, 1) (k, [s]) from El.lit w B k [s] 1 rfl (by simp [maxLen])).below (one_below _ _)
theorem cutX {W : World} {B m b : Nat} {k : Int} {a : Option Addr} {n c : Nat} (h : Fls W B m b []) (hx : El W B (k, a, n, c) gX) (hB : B ≤ W.heap.size) : Calls Try.prog 18 #[.pointer (some ⟨m, 0, none⟩), .int .u8 0, .agg #[.int .i64 k, .slice a n c]] W fun e w' =>
    e = .returned (.int .i64 0) ∧ Fls w' B m b lX ∧ Fr (fun j => j = b) W w' := by
  have h := cut_any 0 k a n c gX B m b [] W hx h ok_nil (by omega) (by decide) hB
  rw [show cut [] 0 gX = (0, lX) from rfl] at h
  exact h
theorem cutY {W : World} {B m b : Nat} {k : Int} {a : Option Addr} {n c : Nat} (h : Fls W B m b lX) (hx : El W B (k, a, n, c) gY) (hB : B ≤ W.heap.size) : Calls Try.prog 18 #[.pointer (some ⟨m, 0, none⟩), .int .u8 0, .agg #[.int .i64 k, .slice a n c]] W fun e w' =>
    e = .returned (.int .i64 0) ∧ Fls w' B m b lY ∧ Fr (fun j => j = b) W w' := by
  have h := cut_any 0 k a n c gY B m b lX W hx h ok_lX (by omega) (by decide) hB
  rw [show cut lX 0 gY = (0, lY) from rfl] at h
  exact h
theorem putX {W : World} {B m b : Nat} {k : Int} {a : Option Addr} {n c : Nat} (h : Fls W B m b lY) (hx : El W B (k, a, n, c) gX) (hB : B ≤ W.heap.size) : Calls Try.prog 16 #[.pointer (some ⟨m, 0, none⟩), .int .u8 33, .agg #[.int .i64 k, .slice a n c]] W fun e w' =>
    e = .returned (.int .i64 23) ∧ Fls w' B m b lY ∧ Fr (fun j => j = b) W w' := by
  have h := put_any 33 k a n c gX B m b lY W hx h ok_lY (by omega) (by decide) hB
  rw [show put lY 33 gX = (23, lY) from rfl] at h
  exact h
theorem getY {W : World} {B m b : Nat} (h : Fls W B m b lY) (hB : B ≤ W.heap.size) : Calls Try.prog 21 #[.pointer (some ⟨m, 0, none⟩), .int .u8 49] W fun e w' => RbOut W B gY true e w' := get_any 49 B m b lY W h ok_lY (by omega) hB
theorem getX {W : World} {B m b : Nat} (h : Fls W B m b lY) (hB : B ≤ W.heap.size) : Calls Try.prog 21 #[.pointer (some ⟨m, 0, none⟩), .int .u8 50] W fun e w' => RbOut W B gX true e w' := get_any 50 B m b lY W h ok_lY (by omega) hB
theorem namY {W : World} {B m b : Nat} (h : Fls W B m b lY) : Calls Try.prog 28 #[.pointer (some ⟨m, 0, none⟩)] W fun e w' =>
    ∃ a cc, e = .returned (.slice a 3 cc) ∧ SrcV w' 1 (.slice a 3 cc) 3 (nbs [34, 49, 50]) ∧ Below W.heap.size W w' := (names_any B m b lY W h ok_lY).mono fun e w' ⟨a, cc, h1, h2, _, h3⟩ => ⟨a, cc, h1, h2, h3⟩
set_option maxHeartbeats 4000000 in
theorem known_any (w : World) : Calls Try.prog 10 #[] w fun e w' => e = .returned (.bool true) ∧ Below w.heap.size w w' := by
  have hnw := new_any w w.heap.size (Nat.le_refl _)
  go_enter Try.func10, Try.ntmps10
  go_wp2_with fail
  refine hnw.mono ?_
  rintro e w1 ⟨rfl, hm1, hb1⟩
  have hpn1 := ptr_nil (w.heap.size + 1) w1
  obtain ⟨B, hB⟩ : ∃ B, B = w.heap.size := ⟨_, rfl⟩
  rw [← hB] at hm1 hpn1
  rw [← hB]
  have HB := Lib.hid (And.intro hB hb1)
  clear hnw hb1 hB
  go_upto_region 6 with fail
  obtain ⟨x1, x2, x3, x4⟩ := one_reg w1 B 1 ⟨#[120]⟩
  obtain ⟨U1, hU1⟩ : ∃ U1, U1 = rg1 w1 1 ⟨#[120]⟩ := ⟨_, rfl⟩
  rw [← hU1] at x1 x2 x3 x4
  have hU1' : U1 = (w1.alloc (.cells #[.string ⟨#[120]⟩] 9)).alloc (.cells #[.int .i64 1, .slice (some ⟨w1.heap.size, 0, none⟩) 1 1] 33) := hU1
  rw [← hU1']
  obtain ⟨y1, y2, y3, y4⟩ := one_reg U1 B 1 ⟨#[121]⟩
  obtain ⟨U, hU⟩ : ∃ U, U = rg1 U1 1 ⟨#[121]⟩ := ⟨_, rfl⟩
  rw [← hU] at y1 y2 y3 y4
  have hU' : U = (U1.alloc (.cells #[.string ⟨#[121]⟩] 9)).alloc (.cells #[.int .i64 1, .slice (some ⟨w1.heap.size + 1 + 1, 0, none⟩) 1 1] 33) := by rw [hU, ← x4]
  rw [← hU']
  rw [x4] at y2 y3
  have hrx := x2.below y1 x2.lt
  have hex := x3.below y1
  have hbU := below_on x1 y1
  have hmU := hm1.below hbU
  obtain ⟨gx, hgx⟩ : ∃ gx, gx = w1.heap.size + 1 := ⟨_, rfl⟩
  obtain ⟨gy, hgy⟩ : ∃ gy, gy = w1.heap.size + 1 + 1 + 1 := ⟨_, rfl⟩
  obtain ⟨ax, hax⟩ : ∃ ax : Option Addr, ax = some ⟨w1.heap.size, 0, none⟩ := ⟨_, rfl⟩
  obtain ⟨ay, hay⟩ : ∃ ay : Option Addr, ay = some ⟨w1.heap.size + 1 + 1, 0, none⟩ := ⟨_, rfl⟩
  rw [← hgx, ← hax] at hrx
  rw [← hax] at hex
  rw [← hay] at y3
  rw [← hgy, ← hay] at y2
  rw [← hgy, ← hay, ← hax, ← hgx]
  have hnx : ¬ gx = B := hmU.reg_ne hrx
  have hny : ¬ gy = B := hmU.reg_ne y2
  have HU := Lib.hid (And.intro hmU (And.intro hrx (And.intro hex (And.intro y2 (And.intro y3 (And.intro hnx (And.intro hny (And.intro (below_on HB.out.2 hbU) HB.out.1))))))))
  clear hU1 hU1' hU hU' x1 x2 x3 x4 y1 y2 y3 y4 hgx hgy hax hay hm1 hmU hbU hrx hex
  have p0 := HU.out.2.1.c0
  have p1 : U.cell? ⟨gx, 1, none⟩ = some (.slice ax 1 1) := HU.out.2.1.c1
  have q0 := HU.out.2.2.2.1.c0
  have q1 : U.cell? ⟨gy, 1, none⟩ = some (.slice ay 1 1) := HU.out.2.2.2.1.c1
  have F_0 := fun (C : World → Prop) (hC : Vs.Grows (fun j => j = B) U C) (z : Vs.In C) => hC.cell p0 hnx z
  have F_1 := fun (C : World → Prop) (hC : Vs.Grows (fun j => j = B) U C) (z : Vs.In C) => hC.cell p1 hnx z
  have F_2 := fun (C : World → Prop) (hC : Vs.Grows (fun j => j = B) U C) (z : Vs.In C) => hC.cell q0 hny z
  have F_3 := fun (C : World → Prop) (hC : Vs.Grows (fun j => j = B) U C) (z : Vs.In C) => hC.cell q1 hny z
  refine Vs.wp_region_seg (S := fun j => j = B) [0, 1, 3, 4, 6, 7] [(2, 1), (5, 1), (8, 1), (9, 2), (10, 2), (11, 2)] (by kernel_rfl) (by kernel_rfl) 71 rfl (by kernel_rfl) ?_
  simp only [List.map_cons, List.map_nil, Vs.opOf_succ, Vs.opOf_zero]
  apply Exists.intro
  refine ⟨fun C hC => ?_, ?_⟩
  · haveI hI := hC.one
    have f_0 := F_0 C hC
    have f_1 := F_1 C hC
    have f_2 := F_2 C hC
    have f_3 := F_3 C hC
    repeat (go_big_quiet_step (fail))
    exact wpQuiet_nil rfl
  clear F_0 F_1 F_2 F_3
  clear hnx hny p0 p1 q0 q1
  refine Vs.wpPath_call (f := 18) (args := #[.pointer (some ⟨B + 1, 0, none⟩), .int .u8 0, .agg #[.int .i64 1, .slice ax 1 1]]) rfl rfl (fun W => by simp only [Vs.opOf_succ, Vs.opOf_zero]; go_simp) ?_
  intro A1 hA1
  have hBA := Nat.le_trans (Nat.le_of_eq HU.out.2.2.2.2.2.2.2.2) (Nat.le_trans HU.out.2.2.2.2.2.2.2.1.size hA1.size)
  refine (cutX (HU.out.1.below hA1) (HU.out.2.2.1.below hA1) hBA).mono ?_
  rintro e A2 ⟨rfl, hf2, hr2⟩
  refine ⟨_, rfl, hr2, ?_⟩
  simp only [Vs.opOf_succ, Vs.opOf_zero, Act.put, List.setIfInBounds_toArray, List.set_cons_zero, List.set_cons_succ]
  have F2 := (Fr.ofBelow hA1 (fun j => j = B)).trans hr2
  refine Vs.wpPath_call (f := 18) (args := #[.pointer (some ⟨B + 1, 0, none⟩), .int .u8 0, .agg #[.int .i64 1, .slice ay 1 1]]) rfl rfl (fun W => by simp only [Vs.opOf_succ, Vs.opOf_zero]; go_simp) ?_
  intro A3 hA3
  have F3 := F2.trans (Fr.ofBelow hA3 (fun j => j = B))
  refine (cutY (hf2.below hA3) (HU.out.2.2.2.2.1.fr F3 HU.out.1.ro) (Nat.le_trans (Nat.le_of_eq HU.out.2.2.2.2.2.2.2.2) (Nat.le_trans HU.out.2.2.2.2.2.2.2.1.size F3.size))).mono ?_
  rintro e A4 ⟨rfl, hf4, hr4⟩
  refine ⟨_, rfl, hr4, ?_⟩
  simp only [Vs.opOf_succ, Vs.opOf_zero, Act.put, List.setIfInBounds_toArray, List.set_cons_zero, List.set_cons_succ]
  have F4 := F3.trans hr4
  refine Vs.wpPath_call (f := 16) (args := #[.pointer (some ⟨B + 1, 0, none⟩), .int .u8 33, .agg #[.int .i64 1, .slice ax 1 1]]) rfl rfl (fun W => by simp only [Vs.opOf_succ, Vs.opOf_zero]; go_simp) ?_
  intro A5 hA5
  have F5 := F4.trans (Fr.ofBelow hA5 (fun j => j = B))
  refine (putX (hf4.below hA5) (HU.out.2.2.1.fr F5 HU.out.1.ro) (Nat.le_trans (Nat.le_of_eq HU.out.2.2.2.2.2.2.2.2) (Nat.le_trans HU.out.2.2.2.2.2.2.2.1.size F5.size))).mono ?_
  rintro e A6 ⟨rfl, hf6, hr6⟩
  refine ⟨_, rfl, hr6, ?_⟩
  simp only [Vs.opOf_succ, Vs.opOf_zero, Act.put, List.setIfInBounds_toArray, List.set_cons_zero, List.set_cons_succ]
  have F6 := F5.trans hr6
  refine Vs.wpPath_free (v := .int .i64 0) rfl rfl (fun _ => rfl) ?_
  simp only [Vs.opOf_succ, Vs.opOf_zero, Act.put, List.setIfInBounds_toArray, List.set_cons_zero, List.set_cons_succ]
  refine Vs.wpPath_free (v := .int .i64 0) rfl rfl (fun _ => rfl) ?_
  simp only [Vs.opOf_succ, Vs.opOf_zero, Act.put, List.setIfInBounds_toArray, List.set_cons_zero, List.set_cons_succ]
  refine Vs.wpPath_free (v := .int .i64 23) rfl rfl (fun _ => rfl) ?_
  simp only [Vs.opOf_succ, Vs.opOf_zero, Act.put, List.setIfInBounds_toArray, List.set_cons_zero, List.set_cons_succ]
  refine Vs.wpPath_end fun v hv => ?_
  have F7 := F6.trans (Fr.ofBelow hv (fun j => j = B))
  have HV := Lib.hid (And.intro (hf6.below hv) (And.intro (HU.out.2.1.fr F7 HU.out.2.2.2.2.2.1) (And.intro (HU.out.2.2.1.fr F7 HU.out.1.ro) (And.intro (HU.out.2.2.2.1.fr F7 HU.out.2.2.2.2.2.2.1) (And.intro (HU.out.2.2.2.2.1.fr F7 HU.out.1.ro) (And.intro (HU.out.2.2.2.2.2.2.2.1.trans (F7.below HU.out.2.2.2.2.2.2.2.1.size (fun k e => by rw [e]; exact Nat.le_of_eq HU.out.2.2.2.2.2.2.2.2.symm))) (Nat.le_trans (Nat.le_of_eq HU.out.2.2.2.2.2.2.2.2) (Nat.le_trans HU.out.2.2.2.2.2.2.2.1.size F7.size))))))))
  clear F2 F3 F4 F5 F6 F7 hf2 hf4 hf6 hr2 hr4 hr6 hA1 hA3 hA5 hv hBA HU hpn1
  go_wp2_with fail
  refine (getY HV.out.1 HV.out.2.2.2.2.2.2).mono ?_
  rintro e v1 ⟨⟨k1, a1, n1, c1⟩, rfl, he1, hb1⟩
  simp only [rv, sv]
  go_upto_region 8 with fail
  obtain ⟨v2, hv2⟩ : ∃ v2, v2 = v1.alloc (.cells #[.int .i64 k1, .slice a1 n1 c1] 33) := ⟨_, rfl⟩
  have hb2 : Below v1.heap.size v1 v2 := by rw [hv2]; exact one_below _ _
  have hr2 : RegAt v2 v1.heap.size (k1, a1, n1, c1) := by rw [hv2]; exact RegAt.new v1 (k1, a1, n1, c1)
  obtain ⟨g1, hg1⟩ : ∃ g1, g1 = v1.heap.size := ⟨_, rfl⟩
  rw [← hg1] at hr2
  rw [← hv2, ← hg1]
  have H2 := Lib.hid (And.intro (below_on hb1 hb2) (And.intro hr2 (he1.below hb2)))
  clear hv2 hb2 hr2 hg1 he1 hb1
  go_wp2_with fail
  refine (getX (HV.out.1.below H2.out.1) (Nat.le_trans HV.out.2.2.2.2.2.2 H2.out.1.size)).mono ?_
  rintro e v3 ⟨⟨k3, a3, n3, c3⟩, rfl, he3, hb3⟩
  simp only [rv, sv]
  go_upto_region 9 with fail
  obtain ⟨v4, hv4⟩ : ∃ v4, v4 = v3.alloc (.cells #[.int .i64 k3, .slice a3 n3 c3] 33) := ⟨_, rfl⟩
  have hb4 : Below v3.heap.size v3 v4 := by rw [hv4]; exact one_below _ _
  have hr4 : RegAt v4 v3.heap.size (k3, a3, n3, c3) := by rw [hv4]; exact RegAt.new v3 (k3, a3, n3, c3)
  obtain ⟨g3, hg3⟩ : ∃ g3, g3 = v3.heap.size := ⟨_, rfl⟩
  rw [← hg3] at hr4
  rw [← hv4, ← hg3]
  have H4 := Lib.hid (And.intro (below_on hb3 hb4) (And.intro hr4 (he3.below hb4)))
  clear hv4 hb4 hr4 hg3 he3 hb3
  have B4 := Lib.hid (below_on H2.out.1 H4.out.1)
  have p0 := (H2.out.2.1.below H4.out.1 H2.out.2.1.lt).c0
  have p1 : v4.cell? ⟨g1, 1, none⟩ = some (.slice a1 n1 c1) := (H2.out.2.1.below H4.out.1 H2.out.2.1.lt).c1
  have q0 := (HV.out.2.2.2.1.below B4.out HV.out.2.2.2.1.lt).c0
  have q1 : v4.cell? ⟨gy, 1, none⟩ = some (.slice ay 1 1) := (HV.out.2.2.2.1.below B4.out HV.out.2.2.2.1.lt).c1
  go_wp2_with fail
  refine (reg_true (H2.out.2.2.below H4.out.1) (HV.out.2.2.2.2.1.below B4.out)).mono ?_
  rintro e v5 ⟨rfl, hb5⟩
  clear p0 p1 q0 q1
  have B5 := Lib.hid (And.intro (below_on B4.out hb5) hb5)
  clear hb5
  have p0 := (H4.out.2.1.below B5.out.2 H4.out.2.1.lt).c0
  have p1 : v5.cell? ⟨g3, 1, none⟩ = some (.slice a3 n3 c3) := (H4.out.2.1.below B5.out.2 H4.out.2.1.lt).c1
  have q0 := (HV.out.2.1.below B5.out.1 HV.out.2.1.lt).c0
  have q1 : v5.cell? ⟨gx, 1, none⟩ = some (.slice ax 1 1) := (HV.out.2.1.below B5.out.1 HV.out.2.1.lt).c1
  go_wp2_with fail
  refine (reg_true (H4.out.2.2.below B5.out.2) (HV.out.2.2.1.below B5.out.1)).mono ?_
  rintro e v6 ⟨rfl, hb6⟩
  clear p0 p1 q0 q1
  have B6 := Lib.hid (below_on B5.out.1 hb6)
  clear hb6
  go_wp2_with fail
  refine (namY (HV.out.1.below B6.out)).mono ?_
  rintro e v7 ⟨na, nc, rfl, hsrc, hb7⟩
  have hcv := conv_names hsrc
  rw [show strN [34, 49, 50] = ({ data := #[34, 49, 50] } : ByteArray) from rfl] at hcv
  have B7 := Lib.hid (below_on B6.out hb7)
  clear hsrc hb7
  have q0 := (HV.out.2.1.below B7.out HV.out.2.1.lt).c0
  have q1 : v7.cell? ⟨gx, 1, none⟩ = some (.slice ax 1 1) := (HV.out.2.1.below B7.out HV.out.2.1.lt).c1
  go_wp2_with fail
  refine (rsize_any 1 ax 1 1 [⟨#[120]⟩] v7 (HV.out.2.2.1.below B7.out).2.1 (by decide)).mono ?_
  rintro e v8 ⟨rfl, hb8⟩
  have HF := Lib.hid (HV.out.2.2.2.2.2.1.trans ((below_on B7.out hb8).mono HV.out.2.2.2.2.2.1.size))
  rw [show ((tz [(⟨#[120]⟩ : ByteArray)] : Nat) : Int) = 2 from rfl]
  clear hb8 q0 q1 hcv
  go_wp2
  go_ret
  exact ⟨rfl, HF.out⟩
end Go.Proofs.Ytgfajagajiofnaa.Rg
