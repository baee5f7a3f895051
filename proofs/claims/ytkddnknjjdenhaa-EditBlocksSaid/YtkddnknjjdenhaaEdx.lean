/-
  Package edit: Cut of a block; the document's text of a block.
-/
import Derived.Test.YtkddnknjjdenhaaEdm
set_option linter.unusedVariables false
set_option linter.unusedSimpArgs false
set_option maxRecDepth 100000
namespace Go.Proofs.Ytkddnknjjdenhaa.Ed
open Go Go.RowKit Go.Proofs.Ytkddnknjjdenhaa.Vk Go.Proofs.Ytkddnknjjdenhaa.Str Go.Proofs.Ytkddnknjjdenhaa.Ln Go.Proofs.Ytkddnknjjdenhaa.Cl Go.Proofs.Ytkddnknjjdenhaa.Mv
attribute [local go_sem] Oper.semAt_some

theorem vld_blk {ls : List ByteArray} {f c t d : Nat} (h : f ≤ t) (ht : t < ls.length) (hc : c ≤ d) : So.vld ls 2 f c t d = true := by
  unfold So.vld
  rw [decide_eq_true (⟨by omega, by omega, by omega⟩ : (0 : Int) ≤ f ∧ (f : Int) ≤ t ∧ (t : Int) < ls.length), Bool.true_and, if_neg (by decide), if_neg (by decide), if_pos rfl, decide_eq_true (by omega)]

set_option maxHeartbeats 2000000 in
theorem cut_block (a : Option Addr) (n c' : Nat) (ls : List ByteArray) (f c t d : Nat) (w : World) (h : Ss w a n c' ls) (hs : ∀ s ∈ ls, s.size ≤ 140737488355328) (hz : ∀ s ∈ ls, s.size ≤ 1000000) (hn : n ≤ 1000000) (hft : f ≤ t) (htn : t < n) (hcd : c ≤ d) :
    Calls Try.prog 28 #[.slice a n c', .agg #[.int .i64 2, .int .i64 f, .int .i64 c, .int .i64 t, .int .i64 d]] w fun e w' => CbOut w ((f, cutL ls f t, rmd noB ls 2 f c t d), true) e w' := by
  have hlen := h.length
  have hv := vld_blk (ls := ls) hft (by omega) hcd
  obtain ⟨X, hX⟩ : ∃ X, X = (w.alloc (.cells #[.int .i64 2, .int .i64 f, .int .i64 c, .int .i64 t, .int .i64 d] TG)).alloc (.cells #[.int .i64 0, .slice none 0 0, .slice none 0 0] TC) := ⟨_, rfl⟩
  have hq : Rq w X 2 f c t d := by rw [hX]; exact Rq.new w 2 f c t d
  have hva := So.valid_any a n c' ls 2 f c t d X (SrcV.below h hq.below) hs
  rw [hv] at hva
  have H := Lib.hid (And.intro (show X = (w.alloc (.cells #[.int .i64 2, .int .i64 f, .int .i64 c, .int .i64 t, .int .i64 d] 48)).alloc (.cells #[.int .i64 0, .slice none 0 0, .slice none 0 0] 31) from hX) (And.intro hq (And.intro h (And.intro hs (And.intro hz hv)))))
  clear hX hq h hs hz hv
  go_enter Try.func28, Try.ntmps28
  go_wp2_with fail
  rw [← H.out.1]
  refine hva.mono ?_
  rintro e w1 ⟨rfl, hb1⟩
  have hq1 := H.out.2.1.on hb1
  have r0 := hq1.rg.c0
  have r1 := hq1.rg.c1
  have r2 := hq1.rg.c2
  have r3 := hq1.rg.c3
  have r4 := hq1.rg.c4
  have HQ := Lib.hid hq1
  clear hva hb1 hq1
  go_wp2
  go_quiet (fail)
  obtain ⟨w2, hw2⟩ : ∃ w2, w2 = w1.drewN nq := ⟨_, rfl⟩
  have hb2 : Below w1.heap.size w1 w2 := by rw [hw2]; exact drewN_below _ _
  rw [← hw2]
  have hq2 := HQ.out.on hb2
  clear r0 r1 r2 r3 r4 hw2 hb2
  have r0 := hq2.rg.c0
  have r1 := hq2.rg.c1
  have r2 := hq2.rg.c2
  have r3 := hq2.rg.c3
  have r4 := hq2.rg.c4
  have HQ2 := Lib.hid hq2
  have hrm := remade_cut a n c' ls 2 f c t d w2 (SrcV.below H.out.2.2.1 hq2.below) H.out.2.2.2.1 H.out.2.2.2.2.1 H.out.2.2.2.2.2 hn
  clear hq2 HQ
  go_wp2_with fail
  refine hrm.mono ?_
  rintro e w3 ⟨ra, rc, rfl, hs3, hb3⟩
  clear hrm r0 r1 r2 r3 r4
  obtain ⟨R, hR⟩ : ∃ R, R = rmd noB ls 2 f c t d := ⟨_, rfl⟩
  rw [← hR] at hs3
  rw [← hR]
  have hq3 := HQ2.out.on hb3
  have hrep := replaced_any a n c' ls f t ra R.length rc R w3 (SrcV.below H.out.2.2.1 hq3.below) hs3 hft htn hn
  have HQ3 := Lib.hid hq3
  have HR := Lib.hid hR
  clear hq3 hs3 hb3 hR HQ2
  go_wp2_with fail
  refine hrep.mono ?_
  rintro e w4 ⟨⟨f', ⟨oa, on, oc⟩, na, nn, nc⟩, rfl, hcw, hb4⟩
  rw [HR.out] at hcw
  simp only [cv, sv]
  have hq5 := HQ3.out.on hb4
  have m0 := hq5.ch.c0
  have m1 : w4.cell? ⟨w.heap.size + 1, 1, none⟩ = some (.slice none 0 0) := hq5.ch.c1
  have m2 : w4.cell? ⟨w.heap.size + 1, 2, none⟩ = some (.slice none 0 0) := hq5.ch.c2
  have z := hq5.ch.z
  have HE := Lib.hid (hq5.put hcw)
  clear hrep hcw hb4 hq5
  go_wp2
  exact ret_cb (g := w.heap.size + 1) rfl rfl rfl rfl HE.out.1 ⟨_, rfl, HE.out.2.1, HE.out.2.2⟩

theorem valid5_blk (a : Option Addr) (n c' : Nat) (f c t d : Nat) (w : World) (hn : n ≤ 1000000) (hft : f ≤ t) (htn : t < n) (hcd : c ≤ d) :
    Calls Try.prog 50 #[.slice a n c', .agg #[.int .i64 2, .int .i64 f, .int .i64 c, .int .i64 t, .int .i64 d]] w fun e w' => e = .returned (.bool true) ∧ Below w.heap.size w w' := by
  have g1 : ¬ ((f : Int) < 0) := by omega
  have g2 : ¬ ((n : Int) ≤ (t : Int)) := by omega
  have g3 : ¬ ((t : Int) < (f : Int)) := by omega
  have g4 : (0 : Int) ≤ (c : Int) := by omega
  have g5 : (c : Int) ≤ (d : Int) := by omega
  have HB := Lib.hid (one_below w (.cells #[.int .i64 2, .int .i64 f, .int .i64 c, .int .i64 t, .int .i64 d] 48))
  go_enter Try.func50, Try.ntmps50
  go_wp2
  go_ret
  exact ⟨rfl, HB.out⟩

/-- Where the part of a line of a block begins, where it ends. -/
def bF (c z : Nat) : Nat := min c z
def bT (d z : Nat) : Nat := if d < z then d + 1 else z
theorem cols_blk (s : ByteArray) (f c t d : Nat) (w : World) (hs : s.size ≤ 1000000) (hd : d ≤ 1000000) (hcd : c ≤ d) :
    Calls Try.prog 51 #[.string s, .agg #[.int .i64 2, .int .i64 f, .int .i64 c, .int .i64 t, .int .i64 d]] w fun e w' => e = .returned (.tuple #[.int .i64 (bF c s.size), .int .i64 (bT d s.size)]) ∧ Below w.heap.size w w' := by
  have HB := Lib.hid (one_below w (.cells #[.int .i64 2, .int .i64 f, .int .i64 c, .int .i64 t, .int .i64 d] 48))
  have e1 : IntKind.i64.wrap ((d : Int) + 1) = ((d + 1 : Nat) : Int) := by rw [IntKind.wrap_i64]; omega
  by_cases h1 : s.size < c
  · have x1 : (s.size : Int) < (c : Int) := by omega
    have x2 : ¬ (d : Int) < (s.size : Int) := by omega
    have x2' : ¬ d < s.size := by omega
    have x3 : ¬ (s.size : Int) < (s.size : Int) := by omega
    have HV : Hid (bF c s.size = s.size ∧ bT d s.size = s.size) := ⟨by unfold bF; omega, by unfold bT; rw [if_neg (by omega)]⟩
    rw [HV.out.1, HV.out.2]
    go_enter Try.func51, Try.ntmps51
    go_wp2
    go_ret2
    exact ⟨rfl, HB.out⟩
  · have x1 : ¬ (s.size : Int) < (c : Int) := by omega
    by_cases h2 : d < s.size
    · have x2 : (d : Int) < (s.size : Int) := by omega
      have HV : Hid (bF c s.size = c ∧ bT d s.size = d + 1) := ⟨by unfold bF; omega, by unfold bT; rw [if_pos h2]⟩
      rw [HV.out.1, HV.out.2]
      by_cases h3 : c < d + 1
      · have x3 : (c : Int) < ((d + 1 : Nat) : Int) := by omega
        have x4 : (c : Int) < (d : Int) + 1 := by omega
        go_enter Try.func51, Try.ntmps51
        go_wp2
        go_ret2
        exact ⟨rfl, HB.out⟩
      · omega
    · have x2 : ¬ (d : Int) < (s.size : Int) := by omega
      have HV : Hid (bF c s.size = c ∧ bT d s.size = s.size) := ⟨by unfold bF; omega, by unfold bT; rw [if_neg h2]⟩
      rw [HV.out.1, HV.out.2]
      by_cases h3 : c < s.size
      · have x3 : (c : Int) < (s.size : Int) := by omega
        go_enter Try.func51, Try.ntmps51
        go_wp2
        go_ret2
        exact ⟨rfl, HB.out⟩
      · have x3 : ¬ (c : Int) < (s.size : Int) := by omega
        have x4 : (c : Int) = (s.size : Int) := by omega
        have x5 : c = s.size := by omega
        subst x5
        clear x4
        go_enter Try.func51, Try.ntmps51
        go_wp2
        go_ret2
        exact ⟨rfl, HB.out⟩

theorem part_blk (ls : List ByteArray) (f c t d j : Nat) (s : ByteArray) : So.part 2 f c t d (j, s) = s.extract (bF c s.size) (bT d s.size) := by
  unfold So.part So.colF So.colT bF bT
  simp only [if_neg (show ¬ (2 : Int) = 0 by decide), if_pos]
  congr 1
  · omega
  · split <;> omega
/-- What stands between the rounds. -/
structure Tb (X wr : World) (TX : List ByteArray) (q : Nat) (a : Option Addr) (cc : Nat) : Prop where
  row : wr.ownsRow X.heap.size ES 1 (.slice a q cc) q ((TX.take q).map Value.string)
  below : Below X.heap.size X wr

set_option maxHeartbeats 4000000 in
theorem text5_blk (a : Option Addr) (n c' : Nat) (ls : List ByteArray) (f c t d : Nat) (w : World) (h : Ss w a n c' ls) (hz : ∀ s ∈ ls, s.size ≤ 1000000) (hn : n ≤ 1000000) (hft : f ≤ t) (htn : t < n) (hcd : c ≤ d) (hd6 : d ≤ 1000000) :
    Calls Try.prog 29 #[.slice a n c', .agg #[.int .i64 2, .int .i64 f, .int .i64 c, .int .i64 t, .int .i64 d]] w fun e w' =>
      ∃ (b : Option Addr) (cc : Nat), e = .returned (.slice b (t + 1 - f) cc) ∧ Ss w' b (t + 1 - f) cc (So.txt ls 2 f c t d) ∧ Below w.heap.size w w' := by
  obtain ⟨i0, hi0, hz0, hz1, hz2⟩ := info_parts infoS
  have hlen := h.length
  obtain ⟨X, hX⟩ : ∃ X, X = w.alloc (.cells #[.int .i64 2, .int .i64 f, .int .i64 c, .int .i64 t, .int .i64 d] TG) := ⟨_, rfl⟩
  have hb : Below w.heap.size w X := by rw [hX]; exact one_below _ _
  have hr : RgAt X w.heap.size 2 f c t d := by rw [hX]; exact RgAt.new w 2 f c t d
  have hva := valid5_blk a n c' f c t d X hn hft htn hcd
  obtain ⟨TX, hTX⟩ : ∃ TX, TX = So.txt ls 2 f c t d := ⟨_, rfl⟩
  obtain ⟨M, hM⟩ : ∃ M, M = t + 1 - f := ⟨_, rfl⟩
  have hTl : TX.length = M := by rw [hTX, txt_length, hM]; omega
  have H := Lib.hid (And.intro (show X = w.alloc (.cells #[.int .i64 2, .int .i64 f, .int .i64 c, .int .i64 t, .int .i64 d] 48) from hX) (And.intro hb (And.intro hr (And.intro h hz))))
  have HM := Lib.hid (And.intro hTX (And.intro hM (And.intro hTl (And.intro hlen hft))))
  rw [← hTX, ← hM]
  have r0 := hr.c0
  have r1 := hr.c1
  have r2 := hr.c2
  have r3 := hr.c3
  have r4 := hr.c4
  have hlt : w.heap.size < X.heap.size := hr.lt
  clear hX hb hr h hz hTX hM hTl hlen
  go_enter Try.func29, Try.ntmps29
  go_wp2_with fail
  rw [← H.out.1]
  refine hva.mono ?_
  rintro e w1 ⟨rfl, hb1⟩
  clear hva r0 r1 r2 r3 r4
  have R1 := H.out.2.2.1.below hb1 hlt
  have r0 := R1.c0
  have r1 := R1.c1
  have r2 := R1.c2
  have r3 := R1.c3
  have r4 := R1.c4
  have hlt1 : w.heap.size < w1.heap.size := by have := hb1.size; omega
  have H1 := Lib.hid (And.intro R1 (And.intro (below_on H.out.2.1 hb1) (SrcV.below (SrcV.below H.out.2.2.2.1 H.out.2.1) hb1)))
  clear R1 hb1
  go_wp2
  clear r0 r1 r2 r3 r4
  go_loopw [5, 6] (fun u v wr => ∃ (q p cc : Nat) (b : Option Addr), u = .slice b q cc ∧ v = .int .i64 p ∧ p = f + q ∧ q ≤ M ∧ Hid (Tb w1 wr TX q b cc)) (fun _ v _ => t + 1 - (RowKit.intOf v).toNat)
  case atStart => exact ⟨0, f, 0, none, rfl, rfl, rfl, Nat.zero_le _, World.ownsRow_nil w1 w1.heap.size ES 1, Below.refl _ _⟩
  case round =>
    obtain ⟨q, p, cc, b, rfl, rfl, hp, hq, HQ⟩ := hrel
    have R := H1.out.1.below HQ.out.below hlt1
    have r0 := R.c0
    have r1 := R.c1
    have r2 := R.c2
    have r3 := R.c3
    have r4 := R.c4
    clear R
    by_cases hqM : q < M
    rotate_left
    · obtain rfl : q = M := by omega
      have hnot : ¬ (p : Int) ≤ (t : Int) := by have := HM.out.2.1; have := HM.out.2.2.2.2; omega
      have hs := SrcV.ofOwn HQ.out.row (one_cells _)
      rw [List.take_of_length_le (by have := HM.out.2.2.1; omega)] at hs
      have HF := Lib.hid (And.intro hs (below_on H1.out.2.1 HQ.out.below))
      clear hs HQ hp
      go_wp2
      go_ret
      exact ⟨b, cc, rfl, HF.out.1, HF.out.2⟩
    obtain ⟨hTX, hM, hTl, hlen, hft⟩ := HM.out
    have hpl : p < ls.length := by omega
    have htxg := So.txt_get ls 2 f c t d q (by omega)
    rw [← hTX, Int.toNat_natCast, ← hp, part_blk ls f c t d p (lineAt ls p)] at htxg
    obtain ⟨bl', ol, rfl, hcl, _⟩ := Ss.read (SrcV.below H1.out.2.2 HQ.out.below) p hpl
    rw [← lineAt_get hpl] at hcl
    have hsz : (lineAt ls p).size ≤ 1000000 := by rw [lineAt_get hpl]; exact H.out.2.2.2.2 _ (List.getElem_mem hpl)
    obtain ⟨s, hss⟩ : ∃ s, s = lineAt ls p := ⟨_, rfl⟩
    rw [← hss] at hcl hsz htxg
    have hco := cols_blk s f c t d wr hsz hd6 hcd
    have hF1 : bF c s.size ≤ bT d s.size := by unfold bF bT; split <;> omega
    have hF2 : bT d s.size ≤ s.size := by unfold bT; split <;> omega
    obtain ⟨F, hF⟩ : ∃ F, F = bF c s.size := ⟨_, rfl⟩
    obtain ⟨T, hT⟩ : ∃ T, T = bT d s.size := ⟨_, rfl⟩
    rw [← hF, ← hT] at htxg hco hF1; rw [← hT] at hF2
    have hRn : (TX.take q).map Value.string ++ [.string (s.extract F T)] = (TX.take (q + 1)).map Value.string := by
      have hqr : q < TX.length := by omega
      rw [List.getElem?_eq_getElem hqr] at htxg
      rw [List.take_succ_eq_append_getElem hqr, List.map_append, Option.some.inj htxg]
      rfl
    have HN := Lib.hid (And.intro hRn hp)
    have e1 : (p : Int) ≤ (t : Int) := by omega
    have e2 : (p : Int) < (n : Int) := by omega
    have e3 : IntKind.i64.wrap ((p : Int) + 1) = ((p + 1 : Nat) : Int) := by rw [IntKind.wrap_i64]; omega
    have e4 : p ≤ t := by omega
    have hq6 : q ≤ 1000000 := by omega
    clear hTX hM hTl hlen hft hpl htxg hss hF hT hRn hp
    go_wp2_with fail
    refine hco.mono ?_
    rintro e w2 ⟨rfl, hb2⟩
    clear hco r0 r1 r2 r3 r4 hcl
    have hrow := Lib.hid (ownsRow_fr (ownsRow_fr HQ.out.row (Fr.ofBelow hb2 (fun _ => False)) (fun _ _ h => h)) ((Fr.refl (fun _ => False) w2).alloc (.cells #[.string (s.extract F T)] ES)) (by simp))
    have hsrc := Lib.hid (SrcV.lit w2 #[.string (s.extract F T)] ES 1 rfl (by simp [Value.oneCell']) (by simp [maxLen]))
    have hbb := below_on HQ.out.below hb2
    have hlw : w1.heap.size ≤ (w2.alloc (.cells #[.string (s.extract F T)] ES)).heap.size := by have := hbb.size; simp; omega
    have HB := Lib.hid hbb
    clear HQ hb2 hbb
    go_wp2_with (at_builtin; go_must (refine append_srcv _ rfl _ _ 22 rfl w1.heap.size ES i0 (.string ⟨#[]⟩) 1 16 underS hi0 hz0 hz1 hz2 rfl (by decide) _ q _ rfl hrow.out _ 1 [.string (s.extract F T)] rfl hsrc.out (by simp only [maxLen]; omega) (by omega) hlw ?_); intro b' c3 w3 hown1 hg hnr; have HO := Lib.hid hown1; have HG := Lib.hid hg; clear hown1 hg hnr)
    go_roundw
    case rel =>
      refine ⟨q + 1, p + 1, c3, b', rfl, by go_num, by have := HN.out.2; omega, by omega, ?_, ?_⟩
      · rw [← HN.out.1]; exact HO.out
      · exact (HB.out.alloc HB.out.size _).trans ((Below.refl w1.heap.size _).grown HG.out hlw (fun g hgg => (hrow.out.lt g hgg).1))
    case measure => simp [RowKit.intOf]; omega
end Go.Proofs.Ytkddnknjjdenhaa.Ed
