/-
  Package edit: Over, and the document's.
-/
import Derived.Test.YtkddnknjjdenhaaEdf
set_option linter.unusedVariables false
set_option linter.unusedSimpArgs false
set_option maxRecDepth 100000
namespace Go.Proofs.Ytkddnknjjdenhaa.Ed
open Go Go.RowKit Go.Proofs.Ytkddnknjjdenhaa.Vk Go.Proofs.Ytkddnknjjdenhaa.Str Go.Proofs.Ytkddnknjjdenhaa.Ln Go.Proofs.Ytkddnknjjdenhaa.Cl Go.Proofs.Ytkddnknjjdenhaa.Mv
attribute [local go_sem] Oper.semAt_some

def ovr (ls : List ByteArray) (l c : Int) (x : UInt8) (m : Int) : Ch × Bool :=
  if oOk ls l c m then ((l, cutL ls l.toNat l.toNat, [((lineAt ls l.toNat).extract 0 c.toNat ++ rep m.toNat x) ++ (lineAt ls l.toNat).extract (c.toNat + m.toNat) (lineAt ls l.toNat).size]), true) else ((0, [], []), false)
theorem mapB_rep (x : UInt8) (s : ByteArray) (n : Nat) (h : s.size = n) : mapB (fun _ => x) s = rep n x := by
  refine So.str_ext ?_
  unfold mapB rep
  simp only
  refine List.ext_getElem ?_ fun i h1 h2 => ?_
  · simp [size_str, h]
  · simp
theorem rmd_over {ls : List ByteArray} {i k m : Nat} (hi : i < ls.length) (hk : k + m ≤ (lineAt ls i).size) (x : UInt8) : rmd (mapB fun _ => x) ls 0 i k i ((k + m : Nat) : Int) = [((lineAt ls i).extract 0 k ++ rep m x) ++ (lineAt ls i).extract (k + m) (lineAt ls i).size] := by
  unfold rmd
  rw [show ((i : Int) - (i : Int) + 1).toNat = 1 by omega, Int.toNat_natCast]
  show [rline (mapB fun _ => x) 0 i k i ((k + m : Nat) : Int) (i + 0, lineAt ls (i + 0))] = _
  rw [Nat.add_zero]
  unfold rline So.part So.colF So.colT
  simp only [if_true, Int.toNat_natCast]
  have hz : ((lineAt ls i).extract k (k + m)).size = m := by rw [ByteArray.size_extract]; omega
  rw [mapB_rep x _ m hz, hz]
theorem vld_over {ls : List ByteArray} {i k m : Nat} (hi : i < ls.length) (hk : k + m ≤ (lineAt ls i).size) : So.vld ls 0 i k i ((k + m : Nat) : Int) = true := by
  refine So.vld_char ?_ ?_ ?_
  · exact ⟨by omega, by omega, by omega, by rw [Int.toNat_natCast]; omega⟩
  · exact ⟨by omega, by omega, by omega, by rw [Int.toNat_natCast]; omega⟩
  · unfold So.lt
    rw [decide_eq_false_iff_not]
    omega

set_option maxHeartbeats 2000000 in
theorem over_all (a : Option Addr) (n c' : Nat) (ls : List ByteArray) (l c : Int) (x : UInt8) (m : Int) (w : World) (h : Ss w a n c' ls) (hs : ∀ s ∈ ls, s.size ≤ 140737488355328) (hz : ∀ s ∈ ls, s.size ≤ 100000) (hn : n ≤ 1000000) :
    Calls Try.prog 16 #[.slice a n c', .agg #[.int .i64 l, .int .i64 c], .int .u8 (x.toNat : Int), .int .i64 m] w fun e w' => CbOut w (ovr ls l c x m) e w' := by
  by_cases hok : oOk ls l c m
  rotate_left
  · rw [show ovr ls l c x m = ((0, [], []), false) from if_neg hok]
    exact over_no a n c' ls l c _ m w h hs hok
  have hlen := h.length
  obtain ⟨hp, h1, h2⟩ := id hok
  obtain ⟨i, k, rfl, rfl, hi, hk⟩ := hp.nat
  rw [Int.toNat_natCast] at h2
  obtain ⟨m, rfl⟩ : ∃ m' : Nat, m = m' := ⟨m.toNat, by omega⟩
  have hkm : k + m ≤ (lineAt ls i).size := by omega
  have HO : Hid (ovr ls i k x m = ((((i : Nat) : Int), cutL ls i i, [((lineAt ls i).extract 0 k ++ rep m x) ++ (lineAt ls i).extract (k + m) (lineAt ls i).size]), true)) := if_pos hok
  rw [HO.out]
  obtain ⟨X, hX⟩ : ∃ X, X = (w.alloc (.cells #[.int .i64 i, .int .i64 k] 24)).alloc (.cells #[.int .i64 0, .slice none 0 0, .slice none 0 0] TC) := ⟨_, rfl⟩
  have hq : Pq w X i k := by rw [hX]; exact Pq.new w i k
  have hin := fun z : Gr X => inside_any a n c' ls i k z.W (SrcV.below (SrcV.below h hq.below) z.below) hs
  rw [decide_eq_true hp] at hin
  have f0 := fun z : Gr X => z.cell hq.pos.c0
  have f1 := fun z : Gr X => z.cell hq.pos.c1
  obtain ⟨b, o, rfl, hcx, hnc, hin2⟩ := Ss.read h i hi
  rw [← lineAt_get hi] at hcx
  have hsz := hz (lineAt ls i) (by rw [lineAt_get hi]; exact List.getElem_mem hi)
  have hcx := cell_later hq.below hcx
  have H := Lib.hid (And.intro (show X = (w.alloc (.cells #[.int .i64 i, .int .i64 k] 24)).alloc (.cells #[.int .i64 0, .slice none 0 0, .slice none 0 0] 31) from hX) hq)
  have HS := Lib.hid (And.intro h (And.intro hs (And.intro (fun s hm => Nat.le_trans (hz s hm) (show 100000 ≤ 1000000 by omega)) hi)))
  have HV := Lib.hid (And.intro (vld_over hi hkm) (rmd_over hi hkm x))
  obtain ⟨st, hst⟩ : ∃ st, st = lineAt ls i := ⟨_, rfl⟩
  rw [← hst] at hcx hsz hk hkm HV HO
  rw [← hst]
  have f2 := fun z : Gr X => z.cell hcx
  have HC := Lib.hid hcx
  have g1 : IntKind.i64.wrap ((st.size : Int) - (k : Int)) = (st.size : Int) - (k : Int) := by rw [IntKind.wrap_i64]; omega
  have g2 : (i : Int) < (n : Int) := by omega
  have d1 : decide ((m : Int) < 1) = false := decide_eq_false (by omega)
  have d1' : decide (m < 1) = false := decide_eq_false (by omega)
  have d2 : decide ((st.size : Int) - (k : Int) < (m : Int)) = false := decide_eq_false (by omega)
  have g3 : IntKind.i64.wrap ((k : Int) + (m : Int)) = ((k + m : Nat) : Int) := by rw [IntKind.wrap_i64]; omega
  have hm6 : m ≤ 100000 := by omega
  clear hX hq h hs hz hok hp hst hcx hi h1 h2
  go_enter Try.func16, Try.ntmps16
  go_wp2
  rw [← H.out.1]
  refine wp_region_grow (by kernel_rfl) (by kernel_rfl) ?_
  repeat (go_big_quiet_step (first | (go_at_call 31; exact Calls.grow_of (hin _))))
  refine wpQuiet_nil ?_
  rintro w2 ⟨⟨w2', hb2⟩, he⟩
  simp only at he
  subst he
  have hq2 := H.out.2.on hb2
  have HQ2 := Lib.hid hq2
  have p0 := hq2.pos.c0
  have p1 := hq2.pos.c1
  have hcx := cell_later hb2 HC.out
  clear hin f0 f1 f2 hb2 hq2 g1 d1 d1' d2
  have hfl := fill_any (some ⟨b, o, none⟩) n c' ls 0 i k i ((k + m : Nat) : Int) x w2 (SrcV.below HS.out.1 HQ2.out.below) HS.out.2.1 HS.out.2.2.1 HV.out.1 hn
  rw [HV.out.2] at hfl
  clear hcx
  go_wp2_with fail
  clear p0 p1
  refine hfl.mono ?_
  rintro e w4 ⟨⟨f', ⟨oa, on, oc⟩, na, nn, nc⟩, rfl, hcw, hb4⟩
  simp only [cv, sv]
  have hq5 := HQ2.out.on hb4
  have m0 := hq5.ch.c0
  have m1 : w4.cell? ⟨w.heap.size + 1, 1, none⟩ = some (.slice none 0 0) := hq5.ch.c1
  have m2 : w4.cell? ⟨w.heap.size + 1, 2, none⟩ = some (.slice none 0 0) := hq5.ch.c2
  have z := hq5.ch.z
  have HE := Lib.hid (hq5.put hcw)
  clear hfl hcw hb4 hq5
  go_wp2
  exact ret_cb (g := w.heap.size + 1) rfl rfl rfl rfl HE.out.1 ⟨_, rfl, HE.out.2.1, HE.out.2.2⟩

set_option maxHeartbeats 2000000 in
theorem over19_all (a : Option Addr) (n c' : Nat) (ls : List ByteArray) (l c : Int) (x : UInt8) (m : Int) (w : World) (h : Ss w a n c' ls) (hs : ∀ s ∈ ls, s.size ≤ 140737488355328) (hz : ∀ s ∈ ls, s.size ≤ 100000) (hn : n ≤ 1000000) :
    Calls Try.prog 17 #[.slice a n c', .agg #[.int .i64 l, .int .i64 c], .int .u8 (x.toNat : Int), .int .i64 m] w fun e w' => CbOut w (ovr ls l c x m) e w' := by
  by_cases hok : oOk ls l c m
  rotate_left
  · rw [show ovr ls l c x m = ((0, [], []), false) from if_neg hok]
    exact over19_no a n c' ls l c _ m w h hs hok
  have hlen := h.length
  obtain ⟨hp, h1, h2⟩ := id hok
  obtain ⟨i, k, rfl, rfl, hi, hk⟩ := hp.nat
  rw [Int.toNat_natCast] at h2
  obtain ⟨m, rfl⟩ : ∃ m' : Nat, m = m' := ⟨m.toNat, by omega⟩
  have hkm : k + m ≤ (lineAt ls i).size := by omega
  have HO : Hid (ovr ls i k x m = ((((i : Nat) : Int), cutL ls i i, [((lineAt ls i).extract 0 k ++ rep m x) ++ (lineAt ls i).extract (k + m) (lineAt ls i).size]), true)) := if_pos hok
  rw [HO.out]
  obtain ⟨X, hX⟩ : ∃ X, X = (w.alloc (.cells #[.int .i64 i, .int .i64 k] 24)).alloc (.cells #[.int .i64 0, .slice none 0 0, .slice none 0 0] TC) := ⟨_, rfl⟩
  have hq : Pq w X i k := by rw [hX]; exact Pq.new w i k
  have hin := fun z : Gr X => place5_any a n c' ls i k z.W (SrcV.below (SrcV.below h hq.below) z.below)
  rw [decide_eq_true hp] at hin
  have f0 := fun z : Gr X => z.cell hq.pos.c0
  have f1 := fun z : Gr X => z.cell hq.pos.c1
  obtain ⟨b, o, rfl, hcx, hnc, hin2⟩ := Ss.read h i hi
  rw [← lineAt_get hi] at hcx
  have hsz := hz (lineAt ls i) (by rw [lineAt_get hi]; exact List.getElem_mem hi)
  have hcx := cell_later hq.below hcx
  have H := Lib.hid (And.intro (show X = (w.alloc (.cells #[.int .i64 i, .int .i64 k] 24)).alloc (.cells #[.int .i64 0, .slice none 0 0, .slice none 0 0] 31) from hX) hq)
  have HS := Lib.hid (And.intro h (And.intro hs (And.intro (fun s hm => Nat.le_trans (hz s hm) (show 100000 ≤ 1000000 by omega)) hi)))
  have HV := Lib.hid (And.intro (vld_over hi hkm) (rmd_over hi hkm x))
  obtain ⟨st, hst⟩ : ∃ st, st = lineAt ls i := ⟨_, rfl⟩
  rw [← hst] at hcx hsz hk hkm HV HO
  rw [← hst]
  have f2 := fun z : Gr X => z.cell hcx
  have HC := Lib.hid hcx
  have g1 : IntKind.i64.wrap ((st.size : Int) - (k : Int)) = (st.size : Int) - (k : Int) := by rw [IntKind.wrap_i64]; omega
  have g2 : (i : Int) < (n : Int) := by omega
  have d1 : decide ((m : Int) < 1) = false := decide_eq_false (by omega)
  have d1' : decide (m < 1) = false := decide_eq_false (by omega)
  have d2 : decide ((st.size : Int) - (k : Int) < (m : Int)) = false := decide_eq_false (by omega)
  have g3 : IntKind.i64.wrap ((k : Int) + (m : Int)) = ((k + m : Nat) : Int) := by rw [IntKind.wrap_i64]; omega
  have hm6 : m ≤ 100000 := by omega
  clear hX hq h hs hz hok hp hst hcx hi h1 h2
  go_enter Try.func17, Try.ntmps17
  go_wp2
  rw [← H.out.1]
  refine wp_region_grow (by kernel_rfl) (by kernel_rfl) ?_
  repeat (go_big_quiet_step (first | (go_at_call 34; exact Calls.grow_of (hin _))))
  refine wpQuiet_nil ?_
  rintro w2 ⟨⟨w2', hb2⟩, he⟩
  simp only at he
  subst he
  have hq2 := H.out.2.on hb2
  have HQ2 := Lib.hid hq2
  have p0 := hq2.pos.c0
  have p1 := hq2.pos.c1
  have hcx := cell_later hb2 HC.out
  clear hin f0 f1 f2 hb2 hq2 g1 d1 d1' d2
  go_wp2
  clear hcx
  have hrs := rep_size m x
  have F_0 := fun (C : World → Prop) (hC : Grows w2 C) (z : In C) => hC.cell p0 z
  have F_1 := fun (C : World → Prop) (hC : Grows w2 C) (z : In C) => hC.cell p1 z
  have F_2 := fun (C : World → Prop) (hC : Grows w2 C) (z : In C) => same_bytes x m z.W hm6
  refine wp_region_seg [0, 1, 2, 3, 4, 5, 6, 7, 8, 9, 10, 11, 12, 13, 14, 15, 16, 17, 18, 19] [(20, 1), (21, 1), (22, 2), (23, 2), (24, 3), (25, 2)] (by kernel_rfl) (by kernel_rfl) 64 rfl (by kernel_rfl) ?_
  simp only [List.map_cons, List.map_nil, opOf_succ, opOf_zero]
  apply Exists.intro
  refine ⟨fun C hC => ?_, ?_⟩
  · haveI hI := hC.one
    have f_0 := F_0 C hC
    have f_1 := F_1 C hC
    have f_2 := F_2 C hC
    repeat (go_big_quiet_step (first | (go_at_call 38; exact Calls.in_of hC (f_2 _))))
    exact wpQuiet_nil rfl
  clear F_0 F_1 F_2
  refine wpPath_make rfl fun u hu => ?_
  refine ⟨.slice (some ⟨u.heap.size, 0, none⟩) 1 1, u.alloc (.cells #[.string ((st.extract 0 k ++ rep m x) ++ st.extract (k + m) st.size)] ES), rfl, by simp only [opOf_succ, opOf_zero]; kernel_rfl, one_below _ _, ?_⟩
  simp only [opOf_succ, opOf_zero, Act.put, List.setIfInBounds_toArray, List.set_cons_zero, List.set_cons_succ]
  have hlit := lit1 u ((st.extract 0 k ++ rep m x) ++ st.extract (k + m) st.size)
  obtain ⟨u1, hu1⟩ : ∃ u1, u1 = u.alloc (.cells #[.string ((st.extract 0 k ++ rep m x) ++ st.extract (k + m) st.size)] ES) := ⟨_, rfl⟩
  obtain ⟨g5, hg5⟩ : ∃ g5, g5 = u.heap.size := ⟨_, rfl⟩
  have hbu : Below u.heap.size u u1 := by rw [hu1]; exact one_below _ _
  rw [← hu1, ← hg5] at hlit
  rw [← hu1, ← hg5]
  have hbb := below_on hu hbu
  clear hu1 hg5 hu hbu p0 p1
  refine wpPath_call (f := 35) (args := #[.slice (some ⟨b, o, none⟩) n c', .int .i64 i, .int .i64 i, .slice (some ⟨g5, 0, none⟩) 1 1]) rfl rfl (fun W => by simp only [opOf_succ, opOf_zero]; go_simp) ?_
  intro A1 hA1
  refine (over_any (some ⟨b, o, none⟩) n c' ls i i (some ⟨g5, 0, none⟩) 1 1 [(st.extract 0 k ++ rep m x) ++ st.extract (k + m) st.size] A1 (SrcV.below HS.out.1 (HQ2.out.on (below_on hbb hA1)).below) (SrcV.below hlit hA1) (Nat.le_refl _) hin2 hn).mono ?_
  rintro e A2 ⟨⟨f', ⟨oa, on, oc⟩, na, nn, nc⟩, rfl, hcw, hA2⟩
  refine ⟨_, rfl, hA2, ?_⟩
  simp only [cv, sv, opOf_succ, opOf_zero, Act.put, List.setIfInBounds_toArray, List.set_cons_zero, List.set_cons_succ]
  have hq3 := HQ2.out.on (below_on hbb (below_on hA1 hA2))
  clear hbb hA1 hA2 hlit
  refine wpPath_free (v := .agg #[.int .i64 f', .slice oa on oc, .slice na nn nc]) rfl rfl (fun W => by simp only [opOf_succ, opOf_zero]; go_simp) ?_
  simp only [opOf_succ, opOf_zero, Act.put, List.setIfInBounds_toArray, List.set_cons_zero, List.set_cons_succ]
  refine wpPath_free (v := .bool true) rfl rfl (fun W => by simp only [opOf_succ, opOf_zero]; go_simp) ?_
  simp only [opOf_succ, opOf_zero, Act.put, List.setIfInBounds_toArray, List.set_cons_zero, List.set_cons_succ]
  refine wpPath_store rfl fun A3 hA3 => ?_
  have hq5 := hq3.on hA3
  have m0 := hq5.ch.c0
  have m1 : A3.cell? ⟨w.heap.size + 1, 1, none⟩ = some (.slice none 0 0) := hq5.ch.c1
  have m2 : A3.cell? ⟨w.heap.size + 1, 2, none⟩ = some (.slice none 0 0) := hq5.ch.c2
  have z := hq5.ch.z
  have hcw3 := hcw.below hA3
  refine ⟨((A3.setCell ⟨w.heap.size + 1, 0, none⟩ (.int .i64 f')).setCell ⟨w.heap.size + 1, 1, none⟩ (.slice oa on oc)).setCell ⟨w.heap.size + 1, 2, none⟩ (.slice na nn nc), rfl, by simp only [opOf_succ, opOf_zero]; go_simp, ?_⟩
  simp only [opOf_succ, opOf_zero, Act.put, List.setIfInBounds_toArray, List.set_cons_zero, List.set_cons_succ]
  refine wpPath_free (v := .bool true) rfl rfl (fun W => by simp only [opOf_succ, opOf_zero]; go_simp) ?_
  simp only [opOf_succ, opOf_zero, Act.put, List.setIfInBounds_toArray, List.set_cons_zero, List.set_cons_succ]
  refine wpPath_end fun A4 hA4 => ?_
  have hp1 := hq5.put hcw3
  have hA4' : Below (putC A3 (w.heap.size + 1) (f', (oa, on, oc), (na, nn, nc))).heap.size (putC A3 (w.heap.size + 1) (f', (oa, on, oc), (na, nn, nc))) A4 := hA4
  have HE := Lib.hid (And.intro (hp1.1.below hA4' hp1.1.lt) (And.intro (hp1.2.1.below hA4') (below_on hp1.2.2 hA4')))
  clear hq3 hq5 hA3 hA4 hA4' hcw hcw3 m0 m1 m2 z hp1
  go_wp2
  exact ret_cb (g := w.heap.size + 1) rfl rfl rfl rfl HE.out.1 ⟨_, rfl, HE.out.2.1, HE.out.2.2⟩
end Go.Proofs.Ytkddnknjjdenhaa.Ed
