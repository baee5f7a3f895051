/-
  Package chars and the document: Last.
-/
import Derived.Test.YtaekgempoaoioaaHl
set_option linter.unusedVariables false
set_option linter.unusedSimpArgs false
set_option maxRecDepth 100000
namespace Go.Proofs.Ytaekgempoaoioaa.Ch
open Go Go.RowKit Go.Proofs.Ytaekgempoaoioaa.Vk Go.Proofs.Ytaekgempoaoioaa.Str Go.Proofs.Ytaekgempoaoioaa.Ln Go.Proofs.Ytaekgempoaoioaa.Cl Go.Proofs.Ytaekgempoaoioaa.Mv
attribute [local go_sem] Oper.semAt_some
set_option maxHeartbeats 1000000

def lastR (ls : List ByteArray) (l c k : Int) : R := if Plc ls l c ∧ 1 ≤ k ∧ l + min k 1073741824 - 1 < ls.length then ⟨l + (min k 1073741824 - 1), ((lineAt ls (l + (min k 1073741824 - 1)).toNat).size - 1 : Nat), 1, false, 1073741824, true⟩ else R.no

theorem last_of_any (a : Option Addr) (n c' : Nat) (ls : List ByteArray) (l c : Int) (k : Int) (w : World) (h : Ss w a n c' ls) (hs : ∀ s ∈ ls, s.size ≤ 140737488355328) :
    Calls Try.prog 17 #[.slice a n c', .agg #[.int .i64 l, .int .i64 c], .int .i64 k] w fun e w' => e = .returned ((lastR ls l c k)).v ∧ Below w.heap.size w w' := by
  obtain ⟨X, hX⟩ : ∃ X, X = ((w.alloc (.cells #[.int .i64 l, .int .i64 c] 24)).alloc (.cells #[.int .i64 0, .int .i64 0, .int .i64 0, .bool false, .int .i64 0] 32)) := ⟨_, rfl⟩
  have hT : Two w X l c := by rw [hX]; exact Two.new w l c
  have HX := Lib.hid hX
  have h1 := inside_any a n c' ls l c X (SrcV.below h hT.below) hs
  have p0 := hT.pos.c0
  have p1 := hT.pos.c1
  have m0 := hT.mv.c0
  have m1 := hT.mv.c1
  have m2 := hT.mv.c2
  have m3 := hT.mv.c3
  have m4 := hT.mv.c4
  have z := hT.mv.z
  have hlen := h.length
  have hn := h.le63
  by_cases hp : Plc ls l c
  · rw [decide_eq_true hp] at h1
    by_cases hk : 1 ≤ k
    · obtain ⟨i, m, rfl, rfl, hi, hm⟩ := hp.nat
      rw [hlen] at hi
      have h2 := fun W => counted_any k W
      have hk1 : ¬ k < 1 := by omega
      obtain ⟨M, hM⟩ : ∃ M, M = min k 1073741824 := ⟨_, rfl⟩
      rw [← hM] at h2
      have e1 : IntKind.i64.wrap (M - 1) = M - 1 := by rw [IntKind.wrap_i64]; omega
      have e2 : IntKind.i64.wrap ((n : Int) - (i : Int)) = (n : Int) - i := by rw [IntKind.wrap_i64]; omega
      by_cases ht : (i : Int) + M - 1 < (n : Int)
      · have hd : (lastR ls i m k) = ⟨i + (M - 1), ((lineAt ls (i + (M - 1)).toNat).size - 1 : Nat), 1, false, 1073741824, true⟩ := by
          unfold lastR; rw [if_pos ⟨hp, hk, by rw [← hM, hlen]; exact ht⟩, ← hM]
        rw [hd]
        obtain ⟨q, hq⟩ : ∃ q : Nat, (i : Int) + (M - 1) = q := ⟨(i + (M - 1)).toNat, by omega⟩
        rw [hq, Int.toNat_natCast]
        have hqn : q < n := by omega
        have h4 := fun W (hW : Below w.heap.size w W) => end_any a n c' ls q false W (SrcV.below h hW) hs hqn
        have htp : top (lineAt ls q) false = (lineAt ls q).size - 1 := by unfold top; rw [if_neg (by decide)]
        rw [htp] at h4
        obtain ⟨T, hT0⟩ : ∃ T : Nat, T = (lineAt ls q).size - 1 := ⟨_, rfl⟩
        rw [← hT0] at h4 ⊢
        have e3 : IntKind.i64.wrap ((i : Int) + (M - 1)) = q := by rw [IntKind.wrap_i64]; omega
        have e4 : ¬ (n : Int) - i ≤ M - 1 := by omega
        have h3 := fun W => exclusive_any q T W
        clear hd hp h hs hX htp hT0 hk hM ht hq
        go_enter Try.func17, Try.ntmps17
        go_wp2_with fail
        rw [← HX.out]
        refine (h1).mono ?_
        rintro e w1 ⟨rfl, hb_w1⟩
        have hT1 := hT.on hb_w1
        clear p0 p1 m0 m1 m2 m3 m4 z h1
        have p0 := hT1.pos.c0
        have p1 := hT1.pos.c1
        have m0 := hT1.mv.c0
        have m1 := hT1.mv.c1
        have m2 := hT1.mv.c2
        have m3 := hT1.mv.c3
        have m4 := hT1.mv.c4
        have z := hT1.mv.z
        go_wp2_with fail
        refine (h2 _).mono ?_
        rintro e w' ⟨rfl, rfl⟩
        clear h2
        go_wp2_with fail
        refine (h4 _ hT1.below).mono ?_
        rintro e w2 ⟨rfl, hb_w2⟩
        have hT2 := hT1.on hb_w2
        clear p0 p1 m0 m1 m2 m3 m4 z h4 hT hT1
        have p0 := hT2.pos.c0
        have p1 := hT2.pos.c1
        have m0 := hT2.mv.c0
        have m1 := hT2.mv.c1
        have m2 := hT2.mv.c2
        have m3 := hT2.mv.c3
        have m4 := hT2.mv.c4
        have z := hT2.mv.z
        go_wp2_with fail
        refine (h3 _).mono ?_
        rintro e w3 ⟨rfl, hb_w3⟩
        have hT3 := hT2.on hb_w3
        clear p0 p1 m0 m1 m2 m3 m4 z h3
        have hV4 := MvAt.new w3 q T 0 (-1) false
        have hT4 := hT3.on ((Below.refl _ w3).alloc (Nat.le_refl _) (.cells #[.int .i64 (q : Int), .int .i64 (T : Int), .int .i64 0, .bool false, .int .i64 (-1)] 32))
        have hg0 : w.heap.size + 2 ≤ w3.heap.size := hT3.size
        go_upto_region 8 with fail
        obtain ⟨w4, hw4⟩ : ∃ w4, w4 = w3.alloc (.cells #[.int .i64 (q : Int), .int .i64 (T : Int), .int .i64 0, .bool false, .int .i64 (-1)] 32) := ⟨_, rfl⟩
        rw [← hw4] at hT4 hV4 ⊢
        obtain ⟨g, hg⟩ : ∃ g, g = w3.heap.size := ⟨_, rfl⟩
        rw [← hg] at hV4 hg0 ⊢
        clear hw4 hg
        have v0 := hV4.c0
        have v1 := hV4.c1
        have v2 := hV4.c2
        have v3 := hV4.c3
        have v4 := hV4.c4
        have zv := hV4.z
        have hT5 := (hT4.set hg0 2 (.int .i64 1)).set hg0 4 (.int .i64 1073741824)
        have hV5 := (hV4.set2 1).set4 1073741824
        go_upto_region 9 with fail
        obtain ⟨w5, hw5⟩ : ∃ w5, w5 = (w4.setCell ⟨g, 2, none⟩ (.int .i64 1)).setCell ⟨g, 4, none⟩ (.int .i64 1073741824) := ⟨_, rfl⟩
        rw [← hw5] at hT5 hV5 ⊢
        clear v0 v1 v2 v3 v4 zv hw5
        have v0 := hV5.c0
        have v1 := hV5.c1
        have v2 := hV5.c2
        have v3 := hV5.c3
        have v4 := hV5.c4
        have zv := hV5.z
        have p0 := hT5.pos.c0
        have p1 := hT5.pos.c1
        have m0 := hT5.mv.c0
        have m1 := hT5.mv.c1
        have m2 := hT5.mv.c2
        have m3 := hT5.mv.c3
        have m4 := hT5.mv.c4
        have z := hT5.mv.z
        go_wp2
        obtain ⟨hg, hb⟩ := hT5.ret q T 1 1073741824 false
        exact ret_mv (r := ⟨q, T, 1, false, 1073741824, true⟩) (g := w.heap.size + 1) rfl rfl rfl rfl hg ⟨rfl, hb⟩
      · have hr : (lastR ls i m k) = R.no := if_neg fun hh => ht (by rw [hM, ← hlen]; exact hh.2.2)
        rw [hr]
        have e4 : (n : Int) - i ≤ M - 1 := by omega
        clear hr hp h hs hX hk hM ht
        go_enter Try.func17, Try.ntmps17
        go_wp2_with fail
        rw [← HX.out]
        refine (h1).mono ?_
        rintro e w1 ⟨rfl, hb_w1⟩
        have hT1 := hT.on hb_w1
        clear p0 p1 m0 m1 m2 m3 m4 z h1
        have p0 := hT1.pos.c0
        have p1 := hT1.pos.c1
        have m0 := hT1.mv.c0
        have m1 := hT1.mv.c1
        have m2 := hT1.mv.c2
        have m3 := hT1.mv.c3
        have m4 := hT1.mv.c4
        have z := hT1.mv.z
        go_wp2_with fail
        refine (h2 _).mono ?_
        rintro e w' ⟨rfl, rfl⟩
        clear h2
        go_wp2
        obtain ⟨hg, hb⟩ := hT1.ret 0 0 0 0 false
        exact ret_mv (r := R.no) (g := w.heap.size + 1) rfl rfl rfl rfl hg ⟨rfl, hb⟩
    · have hr : (lastR ls l c k) = R.no := if_neg fun hh => hk hh.2.1
      rw [hr]
      have hk1 : k < 1 := by omega
      clear hr h hs hX hp hk
      go_enter Try.func17, Try.ntmps17
      go_wp2_with fail
      rw [← HX.out]
      refine (h1).mono ?_
      rintro e w1 ⟨rfl, hb_w1⟩
      have hT1 := hT.on hb_w1
      clear p0 p1 m0 m1 m2 m3 m4 z h1 hT
      have p0 := hT1.pos.c0
      have p1 := hT1.pos.c1
      have m0 := hT1.mv.c0
      have m1 := hT1.mv.c1
      have m2 := hT1.mv.c2
      have m3 := hT1.mv.c3
      have m4 := hT1.mv.c4
      have z := hT1.mv.z
      go_wp2
      obtain ⟨hg, hb⟩ := hT1.ret 0 0 0 0 false
      exact ret_mv (r := R.no) (g := w.heap.size + 1) rfl rfl rfl rfl hg ⟨rfl, hb⟩
  · rw [decide_eq_false hp] at h1
    have hr : (lastR ls l c k) = R.no := if_neg fun hh => hp hh.1
    rw [hr]
    clear hr h hs hX hp
    go_enter Try.func17, Try.ntmps17
    go_wp2_with fail
    rw [← HX.out]
    refine (h1).mono ?_
    rintro e w1 ⟨rfl, hb_w1⟩
    have hT1 := hT.on hb_w1
    clear p0 p1 m0 m1 m2 m3 m4 z h1 hT
    have p0 := hT1.pos.c0
    have p1 := hT1.pos.c1
    have m0 := hT1.mv.c0
    have m1 := hT1.mv.c1
    have m2 := hT1.mv.c2
    have m3 := hT1.mv.c3
    have m4 := hT1.mv.c4
    have z := hT1.mv.z
    go_wp2
    obtain ⟨hg, hb⟩ := hT1.ret 0 0 0 0 false
    exact ret_mv (r := R.no) (g := w.heap.size + 1) rfl rfl rfl rfl hg ⟨rfl, hb⟩

theorem last_of5_any (a : Option Addr) (n c' : Nat) (ls : List ByteArray) (l c : Int) (k : Int) (w : World) (h : Ss w a n c' ls) (hs : ∀ s ∈ ls, s.size ≤ 140737488355328) (hn40 : n ≤ 1000000) :
    Calls Try.prog 18 #[.slice a n c', .agg #[.int .i64 l, .int .i64 c], .int .i64 k] w fun e w' => e = .returned ((lastR ls l c k)).v ∧ Below w.heap.size w w' := by
  obtain ⟨X, hX⟩ : ∃ X, X = ((w.alloc (.cells #[.int .i64 l, .int .i64 c] 24)).alloc (.cells #[.int .i64 0, .int .i64 0, .int .i64 0, .bool false, .int .i64 0] 32)) := ⟨_, rfl⟩
  have hT : Two w X l c := by rw [hX]; exact Two.new w l c
  have HX := Lib.hid hX
  have h1 := fun W (hW : Below X.heap.size X W) => may_any a n c' ls l c k W (SrcV.below (SrcV.below h hT.below) hW)
  have p0 := hT.pos.c0
  have p1 := hT.pos.c1
  have m0 := hT.mv.c0
  have m1 := hT.mv.c1
  have m2 := hT.mv.c2
  have m3 := hT.mv.c3
  have m4 := hT.mv.c4
  have z := hT.mv.z
  have hlen := h.length
  have hn := h.le63
  by_cases hp' : Plc ls l c ∧ 1 ≤ k
  · rw [decide_eq_true hp'] at h1
    obtain ⟨hp, hk⟩ := hp'
    obtain ⟨i, m, rfl, rfl, hi, hm⟩ := hp.nat
    rw [hlen] at hi
    obtain ⟨M, hM⟩ : ∃ M, M = min k 1073741824 := ⟨_, rfl⟩
    have e1 : IntKind.i64.wrap ((i : Int) + M) = i + M := by rw [IntKind.wrap_i64]; omega
    have e2 : IntKind.i64.wrap ((i : Int) + M - 1) = i + M - 1 := by rw [IntKind.wrap_i64]; omega
    have j1 := h1 X (Below.refl _ X)
    have j2 := fun z : Gr X => h1 z.W z.below
    have j3 := fun z : Gr X => capped_any k z.W
    rw [← hM] at j3
    have F0 := fun z : Gr X => z.cell hT.pos.c0
    have F1 := fun z : Gr X => z.cell hT.pos.c1
    clear h1
    by_cases ht : (i : Int) + M - 1 < (n : Int)
    · have hd : (lastR ls i m k) = ⟨i + (M - 1), ((lineAt ls (i + (M - 1)).toNat).size - 1 : Nat), 1, false, 1073741824, true⟩ := by
        unfold lastR; rw [if_pos ⟨hp, hk, by rw [← hM, hlen]; exact ht⟩, ← hM]
      rw [hd]
      have hMk : M = k := by omega
      obtain ⟨q, hq⟩ : ∃ q : Nat, (i : Int) + (M - 1) = q := ⟨(i + (M - 1)).toNat, by omega⟩
      rw [hq, Int.toNat_natCast]
      have hqn : q < n := by omega
      obtain ⟨b, o, rfl, hcell, hnc, _⟩ := h.read q (by omega)
      have hlt := lineAt_get (ls := ls) (k := q) (by omega)
      rw [← hlt] at hcell
      have hsz := hs (ls[q]'(by omega)) (List.getElem_mem _)
      rw [← hlt] at hsz
      clear hlt hd
      generalize lineAt ls q = s at *
      have h3 := fun W => last5_any s W (by omega)
      have e3 : IntKind.i64.wrap ((i : Int) + k) = i + k := by rw [IntKind.wrap_i64]; omega
      have e5 : IntKind.i64.wrap ((i : Int) + k - 1) = q := by rw [IntKind.wrap_i64]; omega
      have e4 : decide ((n : Int) ≤ (i : Int) + M - 1) = false := decide_eq_false (by omega)
      clear hp h hs hX hk hM ht hq hMk
      go_enter Try.func18, Try.ntmps18
      go_wp2
      rw [← HX.out]
      clear p0 p1 m0 m1 m2 m3 m4 z
      refine wp_region_grow (by kernel_rfl) (by kernel_rfl) ?_
      repeat (go_big_quiet_step (first | (go_at_call 31; exact Calls.grow_of (j2 _)) | (go_at_call 34; exact Calls.grow_of_same (j3 _))))
      refine wpQuiet_nil ?_
      rintro w1 ⟨⟨_, hb_w1⟩, rfl⟩
      have hT1 := hT.on hb_w1
      clear F0 F1 j1 j2 hT
      have p0 := hT1.pos.c0
      have p1 := hT1.pos.c1
      have m0 := hT1.mv.c0
      have m1 := hT1.mv.c1
      have m2 := hT1.mv.c2
      have m3 := hT1.mv.c3
      have m4 := hT1.mv.c4
      have z := hT1.mv.z
      clear j3
      have hc1 := cell_later hT1.below hcell
      clear hcell
      go_wp2_with fail
      refine (h3 _).mono ?_
      rintro e w' ⟨rfl, rfl⟩
      clear h3
      go_wp2
      obtain ⟨hg, hb⟩ := hT1.ret q (s.size - 1 : Nat) 1 1073741824 false
      exact ret_mv (r := ⟨q, (s.size - 1 : Nat), 1, false, 1073741824, true⟩) (g := w.heap.size + 1) rfl rfl rfl rfl hg ⟨rfl, hb⟩
    · have hr : (lastR ls i m k) = R.no := if_neg fun hh => ht (by rw [hM, ← hlen]; exact hh.2.2)
      rw [hr]
      have e4 : decide ((n : Int) ≤ (i : Int) + M - 1) = true := decide_eq_true (by omega)
      clear hr hp h hs hX hk hM ht
      go_enter Try.func18, Try.ntmps18
      go_wp2
      rw [← HX.out]
      clear p0 p1 m0 m1 m2 m3 m4 z
      refine wp_region_grow (by kernel_rfl) (by kernel_rfl) ?_
      repeat (go_big_quiet_step (first | (go_at_call 31; exact Calls.grow_of (j2 _)) | (go_at_call 34; exact Calls.grow_of_same (j3 _))))
      refine wpQuiet_nil ?_
      rintro w1 ⟨⟨_, hb_w1⟩, rfl⟩
      have hT1 := hT.on hb_w1
      clear F0 F1 j1 j2 hT
      have p0 := hT1.pos.c0
      have p1 := hT1.pos.c1
      have m0 := hT1.mv.c0
      have m1 := hT1.mv.c1
      have m2 := hT1.mv.c2
      have m3 := hT1.mv.c3
      have m4 := hT1.mv.c4
      have z := hT1.mv.z
      clear j3
      go_wp2_with fail
      refine (none_any _).mono ?_
      rintro e w8 ⟨rfl, hb_w8⟩
      have hT8 := hT1.on hb_w8
      clear p0 p1 m0 m1 m2 m3 m4 z
      have p0 := hT8.pos.c0
      have p1 := hT8.pos.c1
      have m0 := hT8.mv.c0
      have m1 := hT8.mv.c1
      have m2 := hT8.mv.c2
      have m3 := hT8.mv.c3
      have m4 := hT8.mv.c4
      have z := hT8.mv.z
      go_wp2
      obtain ⟨hg, hb⟩ := hT8.ret 0 0 0 0 false
      exact ret_mv (r := R.no) (g := w.heap.size + 1) rfl rfl rfl rfl hg ⟨rfl, hb⟩
  · rw [decide_eq_false hp'] at h1
    have hr : (lastR ls l c k) = R.no := if_neg fun hh => hp' ⟨hh.1, hh.2.1⟩
    rw [hr]
    have j1 := h1
    have j2 := fun z : Gr X => h1 z.W z.below
    have j3 := fun z : Gr X => capped_any k z.W
    have F0 := fun z : Gr X => z.cell hT.pos.c0
    have F1 := fun z : Gr X => z.cell hT.pos.c1
    clear hr h hs hX hp' h1
    go_enter Try.func18, Try.ntmps18
    go_wp2
    rw [← HX.out]
    clear p0 p1 m0 m1 m2 m3 m4 z
    refine wp_region_grow (by kernel_rfl) (by kernel_rfl) ?_
    repeat (go_big_quiet_step (first | (go_at_call 31; exact Calls.grow_of (j2 _)) | (go_at_call 34; exact Calls.grow_of_same (j3 _))))
    refine wpQuiet_nil ?_
    rintro w1 ⟨⟨_, hb_w1⟩, rfl⟩
    have hT1 := hT.on hb_w1
    clear F0 F1 j1 j2 hT
    have p0 := hT1.pos.c0
    have p1 := hT1.pos.c1
    have m0 := hT1.mv.c0
    have m1 := hT1.mv.c1
    have m2 := hT1.mv.c2
    have m3 := hT1.mv.c3
    have m4 := hT1.mv.c4
    have z := hT1.mv.z
    clear j3
    go_wp2_with fail
    refine (none_any _).mono ?_
    rintro e w8 ⟨rfl, hb_w8⟩
    have hT8 := hT1.on hb_w8
    clear p0 p1 m0 m1 m2 m3 m4 z
    have p0 := hT8.pos.c0
    have p1 := hT8.pos.c1
    have m0 := hT8.mv.c0
    have m1 := hT8.mv.c1
    have m2 := hT8.mv.c2
    have m3 := hT8.mv.c3
    have m4 := hT8.mv.c4
    have z := hT8.mv.z
    go_wp2
    obtain ⟨hg, hb⟩ := hT8.ret 0 0 0 0 false
    exact ret_mv (r := R.no) (g := w.heap.size + 1) rfl rfl rfl rfl hg ⟨rfl, hb⟩

end Go.Proofs.Ytaekgempoaoioaa.Ch
