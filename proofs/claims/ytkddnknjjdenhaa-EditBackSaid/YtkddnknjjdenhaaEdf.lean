/-
  Package edit: turned, Fill, Over, Case where each letter is turned.
-/
import Derived.Test.YtkddnknjjdenhaaEdm
set_option linter.unusedVariables false
set_option linter.unusedSimpArgs false
set_option maxRecDepth 100000
namespace Go.Proofs.Ytkddnknjjdenhaa.Ed
open Go Go.RowKit Go.Proofs.Ytkddnknjjdenhaa.Vk Go.Proofs.Ytkddnknjjdenhaa.Str Go.Proofs.Ytkddnknjjdenhaa.Ln Go.Proofs.Ytkddnknjjdenhaa.Cl Go.Proofs.Ytkddnknjjdenhaa.Mv
attribute [local go_sem] Oper.semAt_some

/-- A range and one more value in new variables, and a variable for the answer. -/
structure Uq (w V : World) (k fl fc tl tc : Int) (v : Value) : Prop where
  below : Below w.heap.size w V
  rg : RgAt V w.heap.size k fl fc tl tc
  fn : V.cell? ⟨w.heap.size + 1, 0, none⟩ = some v
  ch : ChAt V (w.heap.size + 2) (0, (none, 0, 0), (none, 0, 0))
section
variable {w V V' : World} {k fl fc tl tc : Int} {v : Value}
theorem Uq.on (h : Uq w V k fl fc tl tc v) (hb : Below V.heap.size V V') : Uq w V' k fl fc tl tc v := ⟨below_on h.below hb, h.rg.below hb h.rg.lt, cell_later hb h.fn, h.ch.below hb h.ch.lt⟩
theorem Uq.new (w : World) (k fl fc tl tc : Int) (v : Value) (t : TypeId) : Uq w (((w.alloc (.cells #[.int .i64 k, .int .i64 fl, .int .i64 fc, .int .i64 tl, .int .i64 tc] TG)).alloc (.cells #[v] t)).alloc (.cells #[.int .i64 0, .slice none 0 0, .slice none 0 0] TC)) k fl fc tl tc v := by
  refine ⟨below_on (one_below _ _) (below_on (one_below _ _) (one_below _ _)), (RgAt.new w k fl fc tl tc).below (below_on (one_below _ _) (one_below _ _)) (by simp), ?_, ?_⟩
  · have h : ((w.alloc (.cells #[.int .i64 k, .int .i64 fl, .int .i64 fc, .int .i64 tl, .int .i64 tc] TG)).alloc (.cells #[v] t)).heap[w.heap.size + 1]? = some (.cells #[v] t (0, 0)) := two_new w _ _
    exact cell_one ((cell_of_row _ _ 0 _ _ _ h).trans (by simp)) _
  · have h := ChAt.new ((w.alloc (.cells #[.int .i64 k, .int .i64 fl, .int .i64 fc, .int .i64 tl, .int .i64 tc] TG)).alloc (.cells #[v] t)) (0, (none, 0, 0), (none, 0, 0))
    rw [show ((w.alloc (.cells #[.int .i64 k, .int .i64 fl, .int .i64 fc, .int .i64 tl, .int .i64 tc] TG)).alloc (.cells #[v] t)).heap.size = w.heap.size + 2 by simp] at h
    exact h
theorem Uq.put (h : Uq w V k fl fc tl tc v) {y : Rw} {c : Ch} (hc : CW V y c) :
    ChAt (putC V (w.heap.size + 2) y) (w.heap.size + 2) y ∧ CW (putC V (w.heap.size + 2) y) y c ∧ Below w.heap.size w (putC V (w.heap.size + 2) y) :=
  ⟨h.ch.set y, CW.putC hc h.ch, putC_below h.below (by omega) y⟩
end

set_option maxHeartbeats 2000000 in
theorem turned_fill (a : Option Addr) (n c' : Nat) (ls : List ByteArray) (k fl fc tl tc : Int) (w : World) (h : Ss w a n c' ls) (hs : ∀ s ∈ ls, s.size ≤ 140737488355328) (hz : ∀ s ∈ ls, s.size ≤ 1000000) (hv : So.vld ls k fl fc tl tc = true) (hn : n ≤ 1000000) (qq : Nat) (x : UInt8) (hqx : w.cell? ⟨qq, 0, none⟩ = some (.int .u8 (x.toNat : Int))) :
    Calls Try.prog 43 #[.slice a n c', .agg #[.int .i64 k, .int .i64 fl, .int .i64 fc, .int .i64 tl, .int .i64 tc], .func (.func 53) #[] #[.pointer (some ⟨qq, 0, none⟩)]] w fun e w' => CbOut w ((fl, cutL ls fl.toNat tl.toNat, rmd (mapB fun _ => x) ls k fl fc tl tc), true) e w' := by
  have hlen := h.length
  have hvl := So.vld_lines hv
  obtain ⟨X, hX⟩ : ∃ X, X = ((w.alloc (.cells #[.int .i64 k, .int .i64 fl, .int .i64 fc, .int .i64 tl, .int .i64 tc] TG)).alloc (.cells #[.func (.func 53) #[] #[.pointer (some ⟨qq, 0, none⟩)]] 75)).alloc (.cells #[.int .i64 0, .slice none 0 0, .slice none 0 0] TC) := ⟨_, rfl⟩
  have hq : Uq w X k fl fc tl tc (.func (.func 53) #[] #[.pointer (some ⟨qq, 0, none⟩)]) := by rw [hX]; exact Uq.new w k fl fc tl tc _ _
  have hva := So.valid_any a n c' ls k fl fc tl tc X (SrcV.below h hq.below) hs
  rw [hv] at hva
  have H := Lib.hid (And.intro (show X = ((w.alloc (.cells #[.int .i64 k, .int .i64 fl, .int .i64 fc, .int .i64 tl, .int .i64 tc] 48)).alloc (.cells #[.func (.func 53) #[] #[.pointer (some ⟨qq, 0, none⟩)]] 75)).alloc (.cells #[.int .i64 0, .slice none 0 0, .slice none 0 0] 31) from hX) hq)
  have HS := Lib.hid (And.intro h (And.intro hs (And.intro hz hv)))
  have HV := Lib.hid (And.intro hvl hlen)
  clear hX hq h hs hz hv hvl hlen
  go_enter Try.func43, Try.ntmps43
  go_wp2_with fail
  rw [← H.out.1]
  refine hva.mono ?_
  rintro e w1 ⟨rfl, hb1⟩
  have hq1 := H.out.2.on hb1
  have hrm := remade_fill a n c' ls k fl fc tl tc (w.heap.size + 1) qq x w1 (SrcV.below HS.out.1 hq1.below) HS.out.2.1 HS.out.2.2.1 HS.out.2.2.2 hn (cell_later hq1.below hqx) hq1.fn
  have HQ1 := Lib.hid hq1
  have r0 := hq1.rg.c0
  have r1 := hq1.rg.c1
  have r2 := hq1.rg.c2
  have r3 := hq1.rg.c3
  have r4 := hq1.rg.c4
  clear hva hb1 hq1
  go_wp2_with fail
  refine hrm.mono ?_
  rintro e w2 ⟨ra, rc, rfl, hs2, hb2⟩
  clear hrm r0 r1 r2 r3 r4
  have hq2 := HQ1.out.on hb2
  have HQ2 := Lib.hid hq2
  have r1 := hq2.rg.c1
  have r3 := hq2.rg.c3
  obtain ⟨f, rfl⟩ : ∃ f : Nat, fl = f := ⟨fl.toNat, by have := HV.out.1; omega⟩
  obtain ⟨t, rfl⟩ : ∃ t : Nat, tl = t := ⟨tl.toNat, by have := HV.out.1; omega⟩
  obtain ⟨R, hR⟩ : ∃ R, R = rmd (mapB fun _ => x) ls k f fc t tc := ⟨_, rfl⟩
  rw [← hR] at hs2
  rw [← hR]
  have hrep := replaced_any a n c' ls f t ra R.length rc R w2 (SrcV.below HS.out.1 hq2.below) hs2 (by have := HV.out.1; omega) (by have := HV.out.1; have := HV.out.2; omega) hn
  have HR := Lib.hid hR
  clear hq2 hs2 hb2 hR HQ1
  go_wp2_with fail
  refine hrep.mono ?_
  rintro e w4 ⟨⟨f', ⟨oa, on, oc⟩, na, nn, nc⟩, rfl, hcw, hb4⟩
  clear r1 r3
  rw [HR.out] at hcw
  simp only [cv, sv]
  have hq5 := HQ2.out.on hb4
  have m0 := hq5.ch.c0
  have m1 : w4.cell? ⟨w.heap.size + 2, 1, none⟩ = some (.slice none 0 0) := hq5.ch.c1
  have m2 : w4.cell? ⟨w.heap.size + 2, 2, none⟩ = some (.slice none 0 0) := hq5.ch.c2
  have z := hq5.ch.z
  have HE := Lib.hid (hq5.put hcw)
  clear hrep hcw hb4 hq5
  go_wp2
  exact ret_cb (g := w.heap.size + 2) rfl rfl rfl rfl HE.out.1 ⟨_, rfl, HE.out.2.1, HE.out.2.2⟩

set_option maxHeartbeats 2000000 in
theorem turned_oth (a : Option Addr) (n c' : Nat) (ls : List ByteArray) (k fl fc tl tc : Int) (w : World) (h : Ss w a n c' ls) (hs : ∀ s ∈ ls, s.size ≤ 140737488355328) (hz : ∀ s ∈ ls, s.size ≤ 1000000) (hv : So.vld ls k fl fc tl tc = true) (hn : n ≤ 1000000)  :
    Calls Try.prog 43 #[.slice a n c', .agg #[.int .i64 k, .int .i64 fl, .int .i64 fc, .int .i64 tl, .int .i64 tc], .func (.func 44) #[] #[]] w fun e w' => CbOut w ((fl, cutL ls fl.toNat tl.toNat, rmd (mapB oth) ls k fl fc tl tc), true) e w' := by
  have hlen := h.length
  have hvl := So.vld_lines hv
  obtain ⟨X, hX⟩ : ∃ X, X = ((w.alloc (.cells #[.int .i64 k, .int .i64 fl, .int .i64 fc, .int .i64 tl, .int .i64 tc] TG)).alloc (.cells #[.func (.func 44) #[] #[]] 75)).alloc (.cells #[.int .i64 0, .slice none 0 0, .slice none 0 0] TC) := ⟨_, rfl⟩
  have hq : Uq w X k fl fc tl tc (.func (.func 44) #[] #[]) := by rw [hX]; exact Uq.new w k fl fc tl tc _ _
  have hva := So.valid_any a n c' ls k fl fc tl tc X (SrcV.below h hq.below) hs
  rw [hv] at hva
  have H := Lib.hid (And.intro (show X = ((w.alloc (.cells #[.int .i64 k, .int .i64 fl, .int .i64 fc, .int .i64 tl, .int .i64 tc] 48)).alloc (.cells #[.func (.func 44) #[] #[]] 75)).alloc (.cells #[.int .i64 0, .slice none 0 0, .slice none 0 0] 31) from hX) hq)
  have HS := Lib.hid (And.intro h (And.intro hs (And.intro hz hv)))
  have HV := Lib.hid (And.intro hvl hlen)
  clear hX hq h hs hz hv hvl hlen
  go_enter Try.func43, Try.ntmps43
  go_wp2_with fail
  rw [← H.out.1]
  refine hva.mono ?_
  rintro e w1 ⟨rfl, hb1⟩
  have hq1 := H.out.2.on hb1
  have hrm := remade_oth a n c' ls k fl fc tl tc (w.heap.size + 1) w1 (SrcV.below HS.out.1 hq1.below) HS.out.2.1 HS.out.2.2.1 HS.out.2.2.2 hn hq1.fn
  have HQ1 := Lib.hid hq1
  have r0 := hq1.rg.c0
  have r1 := hq1.rg.c1
  have r2 := hq1.rg.c2
  have r3 := hq1.rg.c3
  have r4 := hq1.rg.c4
  clear hva hb1 hq1
  go_wp2_with fail
  refine hrm.mono ?_
  rintro e w2 ⟨ra, rc, rfl, hs2, hb2⟩
  clear hrm r0 r1 r2 r3 r4
  have hq2 := HQ1.out.on hb2
  have HQ2 := Lib.hid hq2
  have r1 := hq2.rg.c1
  have r3 := hq2.rg.c3
  obtain ⟨f, rfl⟩ : ∃ f : Nat, fl = f := ⟨fl.toNat, by have := HV.out.1; omega⟩
  obtain ⟨t, rfl⟩ : ∃ t : Nat, tl = t := ⟨tl.toNat, by have := HV.out.1; omega⟩
  obtain ⟨R, hR⟩ : ∃ R, R = rmd (mapB oth) ls k f fc t tc := ⟨_, rfl⟩
  rw [← hR] at hs2
  rw [← hR]
  have hrep := replaced_any a n c' ls f t ra R.length rc R w2 (SrcV.below HS.out.1 hq2.below) hs2 (by have := HV.out.1; omega) (by have := HV.out.1; have := HV.out.2; omega) hn
  have HR := Lib.hid hR
  clear hq2 hs2 hb2 hR HQ1
  go_wp2_with fail
  refine hrep.mono ?_
  rintro e w4 ⟨⟨f', ⟨oa, on, oc⟩, na, nn, nc⟩, rfl, hcw, hb4⟩
  clear r1 r3
  rw [HR.out] at hcw
  simp only [cv, sv]
  have hq5 := HQ2.out.on hb4
  have m0 := hq5.ch.c0
  have m1 : w4.cell? ⟨w.heap.size + 2, 1, none⟩ = some (.slice none 0 0) := hq5.ch.c1
  have m2 : w4.cell? ⟨w.heap.size + 2, 2, none⟩ = some (.slice none 0 0) := hq5.ch.c2
  have z := hq5.ch.z
  have HE := Lib.hid (hq5.put hcw)
  clear hrep hcw hb4 hq5
  go_wp2
  exact ret_cb (g := w.heap.size + 2) rfl rfl rfl rfl HE.out.1 ⟨_, rfl, HE.out.2.1, HE.out.2.2⟩

set_option maxHeartbeats 2000000 in
theorem fill_any (a : Option Addr) (n c' : Nat) (ls : List ByteArray) (k fl fc tl tc : Int) (x : UInt8) (w : World) (h : Ss w a n c' ls) (hs : ∀ s ∈ ls, s.size ≤ 140737488355328) (hz : ∀ s ∈ ls, s.size ≤ 1000000) (hv : So.vld ls k fl fc tl tc = true) (hn : n ≤ 1000000) :
    Calls Try.prog 36 #[.slice a n c', .agg #[.int .i64 k, .int .i64 fl, .int .i64 fc, .int .i64 tl, .int .i64 tc], .int .u8 (x.toNat : Int)] w fun e w' => CbOut w ((fl, cutL ls fl.toNat tl.toNat, rmd (mapB fun _ => x) ls k fl fc tl tc), true) e w' := by
  obtain ⟨X, hX⟩ : ∃ X, X = ((w.alloc (.cells #[.int .i64 k, .int .i64 fl, .int .i64 fc, .int .i64 tl, .int .i64 tc] TG)).alloc (.cells #[.int .u8 (x.toNat : Int)] 5)).alloc (.cells #[.int .i64 0, .slice none 0 0, .slice none 0 0] TC) := ⟨_, rfl⟩
  have hq : Uq w X k fl fc tl tc (.int .u8 (x.toNat : Int)) := by rw [hX]; exact Uq.new w k fl fc tl tc _ _
  have hrep := turned_fill a n c' ls k fl fc tl tc X (SrcV.below h hq.below) hs hz hv hn (w.heap.size + 1) x hq.fn
  have r0 := hq.rg.c0
  have r1 := hq.rg.c1
  have r2 := hq.rg.c2
  have r3 := hq.rg.c3
  have r4 := hq.rg.c4
  have H := Lib.hid (And.intro (show X = ((w.alloc (.cells #[.int .i64 k, .int .i64 fl, .int .i64 fc, .int .i64 tl, .int .i64 tc] 48)).alloc (.cells #[.int .u8 (x.toNat : Int)] 5)).alloc (.cells #[.int .i64 0, .slice none 0 0, .slice none 0 0] 31) from hX) hq)
  have HQ := Lib.hid hq
  clear hX hq h hs hz hv
  go_enter Try.func36, Try.ntmps36
  go_upto_region 1 with fail
  rw [← H.out.1]
  go_wp2_with fail
  clear r0 r1 r2 r3 r4
  refine hrep.mono ?_
  rintro e w4 ⟨⟨f', ⟨oa, on, oc⟩, na, nn, nc⟩, rfl, hcw, hb4⟩
  simp only [cv, sv]
  have hq5 := HQ.out.on hb4
  have m0 := hq5.ch.c0
  have m1 : w4.cell? ⟨w.heap.size + 2, 1, none⟩ = some (.slice none 0 0) := hq5.ch.c1
  have m2 : w4.cell? ⟨w.heap.size + 2, 2, none⟩ = some (.slice none 0 0) := hq5.ch.c2
  have z := hq5.ch.z
  have HE := Lib.hid (hq5.put hcw)
  clear hrep hcw hb4 hq5
  go_wp2
  exact ret_cb (g := w.heap.size + 2) rfl rfl rfl rfl HE.out.1 ⟨_, rfl, HE.out.2.1, HE.out.2.2⟩

set_option maxHeartbeats 2000000 in
theorem case_any (a : Option Addr) (n c' : Nat) (ls : List ByteArray) (k fl fc tl tc : Int) (w : World) (h : Ss w a n c' ls) (hs : ∀ s ∈ ls, s.size ≤ 140737488355328) (hz : ∀ s ∈ ls, s.size ≤ 1000000) (hv : So.vld ls k fl fc tl tc = true) (hn : n ≤ 1000000) :
    Calls Try.prog 26 #[.slice a n c', .agg #[.int .i64 k, .int .i64 fl, .int .i64 fc, .int .i64 tl, .int .i64 tc], .string ⟨#[126]⟩] w fun e w' => CbOut w ((fl, cutL ls fl.toNat tl.toNat, rmd (mapB oth) ls k fl fc tl tc), true) e w' := by
  obtain ⟨X, hX⟩ : ∃ X, X = (w.alloc (.cells #[.int .i64 k, .int .i64 fl, .int .i64 fc, .int .i64 tl, .int .i64 tc] TG)).alloc (.cells #[.int .i64 0, .slice none 0 0, .slice none 0 0] TC) := ⟨_, rfl⟩
  have hq : Rq w X k fl fc tl tc := by rw [hX]; exact Rq.new w k fl fc tl tc
  have hrep := turned_oth a n c' ls k fl fc tl tc X (SrcV.below h hq.below) hs hz hv hn
  have r0 := hq.rg.c0
  have r1 := hq.rg.c1
  have r2 := hq.rg.c2
  have r3 := hq.rg.c3
  have r4 := hq.rg.c4
  have H := Lib.hid (And.intro (show X = (w.alloc (.cells #[.int .i64 k, .int .i64 fl, .int .i64 fc, .int .i64 tl, .int .i64 tc] 48)).alloc (.cells #[.int .i64 0, .slice none 0 0, .slice none 0 0] 31) from hX) hq)
  have HQ := Lib.hid hq
  clear hX hq h hs hz hv
  go_enter Try.func26, Try.ntmps26
  go_upto_region 1 with fail
  rw [← H.out.1]
  go_wp2_with fail
  clear r0 r1 r2 r3 r4
  refine hrep.mono ?_
  rintro e w4 ⟨⟨f', ⟨oa, on, oc⟩, na, nn, nc⟩, rfl, hcw, hb4⟩
  simp only [cv, sv]
  have hq5 := HQ.out.on hb4
  have m0 := hq5.ch.c0
  have m1 : w4.cell? ⟨w.heap.size + 1, 1, none⟩ = some (.slice none 0 0) := hq5.ch.c1
  have m2 : w4.cell? ⟨w.heap.size + 1, 2, none⟩ = some (.slice none 0 0) := hq5.ch.c2
  have z := hq5.ch.z
  have HE := Lib.hid (hq5.put hcw)
  clear hrep hcw hb4 hq5
  go_wp2
  exact ret_cb (g := w.heap.size + 1) rfl rfl rfl rfl HE.out.1 ⟨_, rfl, HE.out.2.1, HE.out.2.2⟩
end Go.Proofs.Ytkddnknjjdenhaa.Ed
