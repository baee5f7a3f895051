/-
  The package: New, set, hand, Get.
-/
import Derived.Test.YtgfajagajiofnaaRc
import Derived.Carry
set_option linter.unusedVariables false
set_option linter.unusedSimpArgs false
set_option maxRecDepth 100000
namespace Go.Proofs.Ytgfajagajiofnaa.Rg
open Go Go.RowKit Go.Proofs.Ytgfajagajiofnaa.Vk Go.Proofs.Ytgfajagajiofnaa.Str Go.Proofs.Ytgfajagajiofnaa.Ln Go.Proofs.Ytgfajagajiofnaa.Cl Go.Proofs.Ytgfajagajiofnaa.Rl
attribute [local go_sem] Oper.semAt_some

abbrev TU : TypeId := 5
theorem infoU : (Try.prog.info? TU).map (fun i => (i.zero, i.size, i.bytes)) = some (some (.int .u8 0), 1, 1) := by kernel_rfl
theorem underU : Try.prog.underlying 27 = some (.slice TU) := by kernel_rfl
/-- Names as cells. -/
def nbs (l : List Nat) : List Value := l.map fun (c : Nat) => Value.int .u8 (c : Int)
theorem nbs_one (l : List Nat) : ∀ u ∈ nbs l, u.oneCell' = true := by simp [nbs, Value.oneCell']
theorem nbs_app (l m : List Nat) : nbs (l ++ m) = nbs l ++ nbs m := List.map_append
theorem length_nbs (l : List Nat) : (nbs l).length = l.length := by simp [nbs]
/-- What a call on the package's registers makes: an error's number, a list. -/
def Op (w : World) (B m b : Nat) (r : Int × ML G) (e : Ending) (w' : World) : Prop := e = .returned (.int .i64 r.1) ∧ Fls w' B m b r.2 ∧ Fr (fun j => j = b) w w'
def OpU (w : World) (B m b : Nat) (L : ML G) (e : Ending) (w' : World) : Prop := e = .returned (.tuple #[]) ∧ Fls w' B m b L ∧ Fr (fun j => j = b) w w'
theorem Fls.src_ne {w : World} {B m b : Nat} {L : ML G} (h : Fls w B m b L) {x : Value} {n : Nat} {xs : List Value} (hs : SrcV w 1 x n xs) (hn : 0 < n) : ∀ k, blk x = some k → ¬ k = b := fun k hk e => by
  subst e
  obtain ⟨es, clock, hb⟩ := h.map
  obtain ⟨h1, _, _, ⟨ao, rfl, h0⟩ | ⟨g, o, c, rfl, _, _, hc⟩⟩ := hs
  · omega
  · simp only [blk, Option.some.injEq] at hk
    subst hk
    have h2 := hc 0 (xs[0]'(by omega)) (List.getElem?_eq_getElem (by omega))
    simp [World.cell?, hb] at h2
theorem Fls.reg_ne {w : World} {B m b g : Nat} {L : ML G} {x : R} (h : Fls w B m b L) (hr : RegAt w g x) : ¬ g = b := fun e => by
  subst e
  obtain ⟨es, clock, hb⟩ := h.map
  unfold RegAt at hr
  rw [hb] at hr
  cases hr
theorem two_new (w : World) (o p : Obj) : ((w.alloc o).alloc p).heap[w.heap.size + 1]? = some p := by
  have := heap_alloc_new (w.alloc o) p
  simpa using this

theorem new_any (w : World) (B : Nat) (hB : B ≤ w.heap.size) : Calls Try.prog 11 #[] w fun e w' => e = .returned (.pointer (some ⟨w.heap.size + 1, 0, none⟩)) ∧ Fls w' B (w.heap.size + 1) w.heap.size [] ∧ Below w.heap.size w w' := by
  have hmm := @run_makeMap Try.prog
  go_enter Try.func11, Try.ntmps11
  go_wp2
  go_ret
  exact ⟨rfl, ⟨two_new _ _ _, hB, [], (MapW.new w).below (one_below _ _), trivial⟩, below_on (one_below _ _) (one_below _ _)⟩

/-- One register written under some names. -/
def setN (L : ML G) (ts : List Nat) (g : G) : ML G := ts.foldl (fun L t => ins L t g) L
theorem setN_next {L : ML G} {ts : List Nat} {g : G} {j : Nat} (h : j < ts.length) : setN L (ts.take (j + 1)) g = ins (setN L (ts.take j) g) ts[j] g := by
  unfold setN
  rw [List.take_succ_eq_append_getElem h, List.foldl_append]
  rfl
theorem ok_setN {L : ML G} {ts : List Nat} {g : G} (h : Ok L) (hv : ∀ t ∈ ts, vn t) (hg : tz g.2 ≤ 4096) : Ok (setN L ts g) := by
  unfold setN
  induction ts generalizing L with
  | nil => exact h
  | cons t ts ih => exact ih (ok_ins h (hv t List.mem_cons_self) hg) (fun u hu => hv u (List.mem_cons_of_mem _ hu))

set_option maxHeartbeats 2000000 in
theorem set_any (k : Int) (a : Option Addr) (n c : Nat) (g : G) (ta : Option Addr) (tn tc : Nat) (ts : List Nat) (B m b : Nat) (L : ML G) (w : World) (hx : El w B (k, a, n, c) g) (ht : SrcV w 1 (.slice ta tn tc) tn (nbs ts)) (hv : ∀ t ∈ ts, vn t)
    (hf : Fls w B m b L) (hok : Ok L) (hs : tz g.2 ≤ 1000000) (hB : B ≤ w.heap.size) : Calls Try.prog 29 #[.pointer (some ⟨m, 0, none⟩), .agg #[.int .i64 k, .slice a n c], .slice ta tn tc] w fun e w' =>
    Op w B m b (if tz g.2 ≤ 4096 then (0, setN L ts g) else (21, L)) e w' := by
  have hn : n ≤ 1000000 := by have h1 := hx.len; have h2 := tz_ge g.2; simp only at h1; omega
  have htl : ts.length = tn := by have := ht.1; rw [length_nbs] at this; omega
  have ht63 : tn ≤ 9223372036854775807 := ht.2.2.1
  have hp := (RegAt.new w (k, a, n, c))
  have hb1 := one_below w (.cells #[.int .i64 k, .slice a n c] TR)
  obtain ⟨w1, hw1⟩ : ∃ w1, w1 = w.alloc (.cells #[.int .i64 k, .slice a n c] TR) := ⟨_, rfl⟩
  have hp : RegAt w1 w.heap.size (k, a, n, c) := by rw [hw1]; exact hp
  rw [← hw1] at hb1
  have hsz := rsize_any k a n c g.2 w1 (SrcV.below hx.2.1 hb1) (by omega)
  have hcl := fun W (hb : Below w1.heap.size w1 W) => rclone_any k a n c g W B ((hx.below hb1).below hb) hn (Nat.le_trans hB (Nat.le_trans hb1.size hb.size))
  have HW := Lib.hid (And.intro (show w1 = w.alloc (.cells #[.int .i64 k, .slice a n c] 33) from hw1) (And.intro hb1 hp))
  have H := Lib.hid (And.intro hx (And.intro ht (And.intro hv (And.intro hf (And.intro hok (And.intro htl hB))))))
  obtain ⟨Z, hZ⟩ : ∃ Z : Int × ML G, Z = (if tz g.2 ≤ 4096 then (0, setN L ts g) else (21, L)) := ⟨_, rfl⟩
  rw [← hZ]
  have HZ := Lib.hid hZ
  clear hw1 hb1 hp hx ht hv hf hok htl hB hZ
  go_enter Try.func29, Try.ntmps29
  go_wp2_with fail
  rw [← HW.out.1]
  refine hsz.mono ?_
  rintro e w2 ⟨rfl, hb2⟩
  have hp2 := HW.out.2.2.below hb2 HW.out.2.2.lt
  have p0 := hp2.c0
  have p1 : w2.cell? ⟨w.heap.size, 1, none⟩ = some (.slice a n c) := hp2.c1
  have HB2 := Lib.hid (And.intro (below_on HW.out.2.1 hb2) hb2)
  clear hp2 hb2 hsz
  obtain ⟨T, hT⟩ : ∃ T, T = tz g.2 := ⟨_, rfl⟩
  rw [← hT]
  rw [← hT] at hs
  by_cases hbig : 4096 < T
  · have HZ2 := Lib.hid (show Z = (21, L) by rw [HZ.out, if_neg (by omega)])
    have HE : Hid (Fls w2 B m b L ∧ Fr (fun j => j = b) w w2) := ⟨H.out.2.2.2.1.below HB2.out.1, Fr.ofBelow HB2.out.1 _⟩
    clear hT
    have e1 : (4096 : Int) < (T : Int) := by omega
    go_wp2
    go_ret
    rw [HZ2.out]
    exact ⟨rfl, HE.out⟩
  · have HZ2 := Lib.hid (show Z = (0, setN L ts g) by rw [HZ.out, if_pos (by omega)])
    have HT := Lib.hid (show tz g.2 ≤ 4096 by omega)
    have e1 : ¬ (4096 : Int) < (T : Int) := by omega
    clear hT hbig
    go_wp2_with fail
    refine (hcl _ HB2.out.2).mono ?_
    rintro e w3 ⟨⟨k', a', n', c'⟩, rfl, hel, hb3⟩
    simp only [rv, sv]
    clear hcl p0 p1
    have hb03 := below_on HB2.out.1 hb3
    obtain ⟨w4, hw4⟩ : ∃ w4, w4 = w3.alloc (.cells #[.int .i64 k', .slice a' n' c'] 33) := ⟨_, rfl⟩
    have hb4 : Below w3.heap.size w3 w4 := by rw [hw4]; exact one_below _ _
    have hr4 : RegAt w4 w3.heap.size (k', a', n', c') := by rw [hw4]; exact RegAt.new w3 (k', a', n', c')
    have HX := Lib.hid (And.intro hw4 (And.intro (below_on hb03 hb4) (And.intro hr4 (hel.below hb4))))
    obtain ⟨q, hq⟩ : ∃ q, q = w3.heap.size := ⟨_, rfl⟩
    rw [← hq] at HX
    have HQ := Lib.hid hq
    clear hw4 hb4 hr4 hel hb3 hb03 hq
    go_wp2
    rw [← HX.out.1, ← HQ.out]
    go_loopw [9, 17] (fun _ i wr => ∃ j : Nat, j ≤ tn ∧ i = .int .i64 j ∧ Hid (Fls wr B m b (setN L (ts.take j) g) ∧ Fr (fun j => j = b) w4 wr)) (fun _ i _ => tn - (RowKit.intOf i).toNat)
    case atStart => exact ⟨0, Nat.zero_le _, rfl, H.out.2.2.2.1.below HX.out.2.1, Fr.refl _ _⟩
    case round =>
      obtain ⟨j, hj, rfl, HR⟩ := hrel
      by_cases hjt : j < tn
      · have hjl : j < ts.length := by have := H.out.2.2.2.2.2.1; omega
        have hFw : Fr (fun j => j = b) w wr := (Fr.ofBelow HX.out.2.1 _).trans HR.out.2
        obtain ⟨tb, to', hta, hct, htc, _⟩ := (SrcV.fr H.out.2.1 hFw (fun h0 k hk => H.out.2.2.2.1.src_ne H.out.2.1 h0 k hk)).at (j := j) (u := .int .u8 (ts[j] : Int)) (by simp [nbs, hjl])
        subst hta
        have hne : ¬ q = b := (H.out.2.2.2.1.below HX.out.2.1).reg_ne HX.out.2.2.1
        have hrr := HX.out.2.2.1.fr HR.out.2 hne
        have hel := HX.out.2.2.2.fr HR.out.2 (H.out.2.2.2.1.below HX.out.2.1).ro
        have hvt := H.out.2.2.1 ts[j] (List.getElem_mem hjl)
        have hcm := HR.out.1.cell
        have HN := Lib.hid (setN_next (L := L) (g := g) hjl)
        obtain ⟨t, ht⟩ : ∃ t, t = ts[j] := ⟨_, rfl⟩
        rw [← ht] at hct hvt HN
        have p0 := hrr.c0
        have p1 : wr.cell? ⟨q, 1, none⟩ = some (.slice a' n' c') := hrr.c1
        have hok' : Ok (setN L (ts.take j) g) := ok_setN H.out.2.2.2.2.1 (fun u hu => H.out.2.2.1 u (List.mem_of_mem_take hu)) HT.out
        have ht256 : t < 256 := by unfold vn at hvt; omega
        have HK := Lib.hid (And.intro hok' (And.intro hel HR.out))
        clear ht hrr hok' hel hvt hFw
        go_wp2_with fail
        have F_0 := fun (C : World → Prop) (hC : Grows wr C) (z : In C) => hC.cell hcm z
        have F_1 := fun (C : World → Prop) (hC : Grows wr C) (z : In C) => hC.cell p0 z
        have F_2 := fun (C : World → Prop) (hC : Grows wr C) (z : In C) => hC.cell p1 z
        refine wp_region_seg [0, 1, 2, 3, 4, 5] [(6, 3)] (by kernel_rfl) (by kernel_rfl) 28 rfl (by kernel_rfl) ?_
        simp only [List.map_cons, List.map_nil, opOf_succ, opOf_zero]
        apply Exists.intro
        refine ⟨fun C hC => ?_, ?_⟩
        · haveI hI := hC.one
          have f_0 := F_0 C hC
          have f_1 := F_1 C hC
          have f_2 := F_2 C hC
          repeat (go_big_quiet_step (fail))
          exact wpQuiet_nil rfl
        clear F_0 F_1 F_2
        refine wpPath_store rfl fun w5 hb5 => ?_
        have h5 := HK.out.2.2.1.below hb5
        obtain ⟨w6, hu6, hm6, hf6⟩ := h5.put HK.out.1 (c := t) ht256 (HK.out.2.1.below hb5)
        simp only [rv, sv] at hu6
        refine ⟨w6, rfl, by simp only [opOf_succ, opOf_zero]; go_simp, ?_⟩
        simp only [opOf_succ, opOf_zero, Act.put, List.setIfInBounds_toArray, List.set_cons_zero, List.set_cons_succ]
        refine wpPath_end fun w7 hb7 => ?_
        have h7 := hm6.below hb7
        have hf7 : Fr (fun j => j = b) wr w7 := (((Fr.ofBelow hb5 _).trans hf6)).trans (Fr.ofBelow hb7 _)
        clear hu6 hm6 hf6 h5 hb5 hb7
        have HE : Hid (Fls w7 B m b (setN L (ts.take (j + 1)) g) ∧ Fr (fun j => j = b) w4 w7) := by rw [HN.out]; exact ⟨h7, HR.out.2.trans hf7⟩
        clear h7 hf7
        go_wp2
        go_roundw
        case rel => exact ⟨j + 1, by omega, by go_num, HE⟩
        case measure => simp [RowKit.intOf]; omega
      · obtain rfl : j = tn := by omega
        have HE : Hid (Fls wr B m b (setN L ts g) ∧ Fr (fun j => j = b) w wr) := ⟨by have h1 := HR.out.1; rw [List.take_of_length_le (by have := H.out.2.2.2.2.2.1; omega)] at h1; exact h1, (Fr.ofBelow HX.out.2.1 _).trans HR.out.2⟩
        clear HR
        go_wp2
        go_ret
        rw [HZ2.out]
        exact ⟨rfl, HE.out⟩

set_option maxHeartbeats 1000000 in
theorem hand_any (f t : Nat) (B m b : Nat) (L : ML G) (w : World) (hf : Fls w B m b L) (hok : Ok L) (hf256 : f < 256) (ht : vn t) : Calls Try.prog 30 #[.pointer (some ⟨m, 0, none⟩), .int .u8 (f : Int), .int .u8 (t : Int)] w fun e w' =>
    OpU w B m b (hand L f t) e w' := by
  have ht256 : t < 256 := by unfold vn at ht; omega
  obtain ⟨⟨k', a', n', c'⟩, hel, hlk⟩ := hf.look hf256
  have hlk := hlk w (Below.refl _ _)
  simp only [rv, sv] at hlk
  have hcm := hf.cell
  obtain ⟨w1, hw1⟩ : ∃ w1, w1 = w.alloc (.cells #[.int .i64 k', .slice a' n' c'] 33) := ⟨_, rfl⟩
  have hb1 : Below w.heap.size w w1 := by rw [hw1]; exact one_below _ _
  have hr1 : RegAt w1 w.heap.size (k', a', n', c') := by rw [hw1]; exact RegAt.new w (k', a', n', c')
  have H := Lib.hid (And.intro hw1 (And.intro hb1 (And.intro hr1 (And.intro (hf.below hb1) hok))))
  have hel := hel.below hb1
  obtain ⟨Z, hZ⟩ : ∃ Z, Z = hand L f t := ⟨_, rfl⟩
  rw [← hZ]
  clear hw1 hb1 hr1 hf hok ht
  cases hq : lk L f with
  | none =>
    rw [hq] at hlk
    simp only [Option.isSome_none] at hlk
    have HE : Hid (OpU w B m b Z (.returned (.tuple #[])) w1) := ⟨rfl, by rw [hZ, hand_none hq]; exact H.out.2.2.2.1, Fr.ofBelow H.out.2.1 _⟩
    clear hZ hq hel
    go_enter Try.func30, Try.ntmps30
    go_wp2
    go_end0
    rw [← H.out.1]
    exact HE.out
  | some g =>
    rw [hq] at hlk hel
    simp only [Option.isSome_some] at hlk
    have HZ := Lib.hid (hZ.trans (hand_some (t := t) hq))
    have HEL := Lib.hid (show El w1 B (k', a', n', c') g from hel)
    clear hZ hq hel
    go_enter Try.func30, Try.ntmps30
    go_wp2_with fail
    rw [← H.out.1]
    have hcm := H.out.2.2.2.1.cell
    have p0 := H.out.2.2.1.c0
    have p1 : w1.cell? ⟨w.heap.size, 1, none⟩ = some (.slice a' n' c') := H.out.2.2.1.c1
    clear hlk
    have F_0 := fun (C : World → Prop) (hC : Grows w1 C) (z : In C) => hC.cell hcm z
    have F_1 := fun (C : World → Prop) (hC : Grows w1 C) (z : In C) => hC.cell p0 z
    have F_2 := fun (C : World → Prop) (hC : Grows w1 C) (z : In C) => hC.cell p1 z
    refine wp_region_seg [0, 1, 2, 3, 4, 5] [(6, 3)] (by kernel_rfl) (by kernel_rfl) 24 rfl (by kernel_rfl) ?_
    simp only [List.map_cons, List.map_nil, opOf_succ, opOf_zero]
    apply Exists.intro
    refine ⟨fun C hC => ?_, ?_⟩
    · haveI hI := hC.one
      have f_0 := F_0 C hC
      have f_1 := F_1 C hC
      have f_2 := F_2 C hC
      repeat (go_big_quiet_step (fail))
      exact wpQuiet_nil rfl
    clear F_0 F_1 F_2
    refine wpPath_store rfl fun w5 hb5 => ?_
    have h5 := H.out.2.2.2.1.below hb5
    obtain ⟨w6, hu6, hm6, hf6⟩ := h5.put H.out.2.2.2.2 (c := t) ht256 (HEL.out.below hb5)
    simp only [rv, sv] at hu6
    refine ⟨w6, rfl, by simp only [opOf_succ, opOf_zero]; go_simp, ?_⟩
    simp only [opOf_succ, opOf_zero, Act.put, List.setIfInBounds_toArray, List.set_cons_zero, List.set_cons_succ]
    refine wpPath_end fun w7 hb7 => ?_
    have h7 := hm6.below hb7
    have hf7 : Fr (fun j => j = b) w1 w7 := (((Fr.ofBelow hb5 _).trans hf6)).trans (Fr.ofBelow hb7 _)
    clear hu6 hm6 hf6 h5 hb5 hb7
    have HE : Hid (OpU w B m b Z (.returned (.tuple #[])) w7) := ⟨rfl, by rw [HZ.out]; exact h7, (Fr.ofBelow H.out.2.1 _).trans hf7⟩
    clear h7 hf7
    go_wp2
    go_end0
    exact HE.out

set_option maxHeartbeats 1000000 in
theorem get_any (c : Nat) (B m b : Nat) (L : ML G) (w : World) (hf : Fls w B m b L) (hok : Ok L) (hc : c < 256) (hB : B ≤ w.heap.size) : Calls Try.prog 21 #[.pointer (some ⟨m, 0, none⟩), .int .u8 (c : Int)] w fun e w' =>
    RbOut w B (gz (lk L (reg c))) (lk L (reg c)).isSome e w' := by
  obtain ⟨⟨k', a', n', c'⟩, hel, hlk⟩ := hf.look (reg_lt hc)
  have hn : n' ≤ 1000000 := by
    have h1 := hel.len
    simp only at h1
    cases hq : lk L (reg c) with
    | none => rw [hq] at h1; change 0 = n' at h1; omega
    | some g => rw [hq] at h1; change g.2.length = n' at h1; have h2 := tz_ge g.2; have h3 := (ok_look hok hq).2; omega
  obtain ⟨g, hg⟩ : ∃ g, g = gz (lk L (reg c)) := ⟨_, rfl⟩
  obtain ⟨q, hq⟩ : ∃ q, q = (lk L (reg c)).isSome := ⟨_, rfl⟩
  rw [← hg] at hel
  rw [← hq] at hlk
  rw [← hg, ← hq]
  simp only [rv, sv] at hlk
  clear hg hq
  obtain ⟨w1, hw1⟩ : ∃ w1, w1 = w.alloc (.cells #[.int .i64 0, .slice none 0 0] 33) := ⟨_, rfl⟩
  have hb1 : Below w.heap.size w w1 := by rw [hw1]; exact one_below _ _
  have hr1 : RegAt w1 w.heap.size (0, none, 0, 0) := by rw [hw1]; exact RegAt.new w (0, none, 0, 0)
  have hlk := fun W (hb : Below w1.heap.size w1 W) => hlk W (below_on hb1 hb)
  have hcm := (hf.below hb1).cell
  have H := Lib.hid (And.intro hw1 (And.intro hb1 (And.intro hr1 (And.intro (hel.below hb1) hB))))
  have hrg := fun W => register_any c W hc
  obtain ⟨d, hd⟩ : ∃ d, d = reg c := ⟨_, rfl⟩
  rw [← hd] at hlk hrg
  clear hw1 hb1 hr1 hf hok hel hB hd
  go_enter Try.func21, Try.ntmps21
  go_wp2_with fail
  rw [← H.out.1]
  have F_0 := fun (C : World → Prop) (hC : Grows w1 C) (z : In C) => hC.cell hcm z
  have F_1 := fun (C : World → Prop) (hC : Grows w1 C) (z : In C) => hlk _ (hC.below _ z.isIn)
  have F_2 := fun (C : World → Prop) (hC : Grows w1 C) (z : In C) => Calls.in_of_same hC (hrg z.W)
  refine wp_region_seg [0, 1, 2, 3, 4, 5, 6, 7, 8] [(9, 2), (10, 1), (11, 3), (12, 2)] (by kernel_rfl) (by kernel_rfl) 21 rfl (by kernel_rfl) ?_
  simp only [List.map_cons, List.map_nil, opOf_succ, opOf_zero]
  apply Exists.intro
  refine ⟨fun C hC => ?_, ?_⟩
  · haveI hI := hC.one
    have f_0 := F_0 C hC
    have f_1 := F_1 C hC
    have f_2 := F_2 C hC
    repeat (go_big_quiet_step (first | (go_at_call 31; exact f_2 _)))
    exact wpQuiet_nil rfl
  clear F_0 F_1 F_2
  clear hrg hlk hcm
  refine wpPath_free (v := .bool q) rfl rfl (fun W => by simp only [opOf_succ, opOf_zero]; go_simp) ?_
  simp only [opOf_succ, opOf_zero, Act.put, List.setIfInBounds_toArray, List.set_cons_zero, List.set_cons_succ]
  refine wpPath_make rfl fun u0 hu0 => ⟨.pointer (some ⟨u0.heap.size, 0, none⟩), u0.alloc (.cells #[.int .i64 0, .slice none 0 0] TR), rfl, by simp only [opOf_succ, opOf_zero]; kernel_rfl, one_below _ _, ?_⟩
  simp only [opOf_succ, opOf_zero, Act.put, List.setIfInBounds_toArray, List.set_cons_zero, List.set_cons_succ]
  have hr2 : RegAt (u0.alloc (.cells #[.int .i64 0, .slice none 0 0] TR)) u0.heap.size (0, none, 0, 0) := RegAt.new u0 (0, none, 0, 0)
  obtain ⟨u1, hu1⟩ : ∃ u1, u1 = u0.alloc (.cells #[.int .i64 0, .slice none 0 0] TR) := ⟨_, rfl⟩
  have hb1 : Below w1.heap.size w1 u1 := by rw [hu1]; exact below_on hu0 (one_below _ _)
  obtain ⟨g2, hg2⟩ : ∃ g2, g2 = u0.heap.size := ⟨_, rfl⟩
  have hge : w1.heap.size ≤ g2 := by rw [hg2]; exact hu0.size
  rw [← hu1, ← hg2] at hr2
  rw [← hu1, ← hg2]
  clear hu1 hg2 hu0
  refine wpPath_store rfl fun u2 hu2 => ?_
  have hr2 := hr2.below hu2 hr2.lt
  have m0 := hr2.c0
  have m1 : u2.cell? ⟨g2, 1, none⟩ = some (.slice none 0 0) := hr2.c1
  have z := hr2.z
  refine ⟨(u2.setCell ⟨g2, 0, none⟩ (.int .i64 k')).setCell ⟨g2, 1, none⟩ (.slice a' n' c'), rfl, by simp only [opOf_succ, opOf_zero]; go_simp, ?_⟩
  simp only [opOf_succ, opOf_zero, Act.put, List.setIfInBounds_toArray, List.set_cons_zero, List.set_cons_succ]
  refine wpPath_free (v := .bool q) rfl rfl (fun _ => rfl) ?_
  simp only [opOf_succ, opOf_zero, Act.put, List.setIfInBounds_toArray, List.set_cons_zero, List.set_cons_succ]
  refine wpPath_end fun u3 hu3 => ?_
  have hr3 : RegAt u3 g2 (k', a', n', c') := (hr2.set (k', a', n', c')).below hu3 (by have := hr2.lt; simpa [World.setCell] using this)
  have hb3 : Below w1.heap.size w1 u3 := (((below_on hb1 hu2).setCell (p := ⟨g2, 0, none⟩) hge (.int .i64 k')).setCell (p := ⟨g2, 1, none⟩) hge (.slice a' n' c')).trans (hu3.mono (by have := (below_on hb1 hu2).size; simpa [World.setCell] using this))
  have p0 := hr3.c0
  have p1 : u3.cell? ⟨g2, 1, none⟩ = some (.slice a' n' c') := hr3.c1
  have hcl := rclone_any k' a' n' c' g u3 B (H.out.2.2.2.1.below hb3) hn (Nat.le_trans H.out.2.2.2.2 (Nat.le_trans H.out.2.1.size hb3.size))
  have HB := Lib.hid hb3
  clear hb3 hr3 hu3 hr2 m0 m1 z hu2 hb1 hge
  go_wp2_with fail
  refine hcl.mono ?_
  rintro e u4 ⟨⟨k2, a2, n2, c2⟩, rfl, he4, hb4⟩
  simp only [rv, sv]
  have hbb := below_on HB.out hb4
  have hr4 := H.out.2.2.1.below hbb H.out.2.2.1.lt
  have m0 := hr4.c0
  have m1 : u4.cell? ⟨w.heap.size, 1, none⟩ = some (.slice none 0 0) := hr4.c1
  have z := hr4.z
  have hBw := H.out.2.2.2.2
  have hset : RegAt ((u4.setCell ⟨w.heap.size, 0, none⟩ (.int .i64 k2)).setCell ⟨w.heap.size, 1, none⟩ (.slice a2 n2 c2)) w.heap.size (k2, a2, n2, c2) := hr4.set (k2, a2, n2, c2)
  have HE := Lib.hid (And.intro hset (And.intro (he4.fr (((Fr.refl (fun j => j = w.heap.size) u4).setCell (p := ⟨w.heap.size, 0, none⟩) (fun _ => rfl) (.int .i64 k2)).setCell (p := ⟨w.heap.size, 1, none⟩) (fun _ => rfl) (.slice a2 n2 c2)) (fun j hj hr => hr4.ro hBw (hj ▸ hr)))
    (((below_on H.out.2.1 hbb).setCell (p := ⟨w.heap.size, 0, none⟩) (Nat.le_refl _) (.int .i64 k2)).setCell (p := ⟨w.heap.size, 1, none⟩) (Nat.le_refl _) (.slice a2 n2 c2))))
  clear hset he4 hbb hr4 hb4 hcl p0 p1 hBw
  go_wp2
  exact ret_rs (g := w.heap.size) rfl rfl rfl rfl HE.out.1 ⟨_, rfl, HE.out.2.1, HE.out.2.2⟩
end Go.Proofs.Ytgfajagajiofnaa.Rg
