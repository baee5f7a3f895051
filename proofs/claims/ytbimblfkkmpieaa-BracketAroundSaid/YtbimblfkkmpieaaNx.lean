/-
  The document's Valid, Text, of a range of bytes that is one of the text's.
-/
import Derived.Test.YtbimblfkkmpieaaNl
set_option linter.unusedVariables false
set_option linter.unusedSimpArgs false
set_option maxRecDepth 100000
namespace Go.Proofs.Ytbimblfkkmpieaa.Bo
open Go Go.RowKit Go.Proofs.Ytbimblfkkmpieaa.Vk Go.Proofs.Ytbimblfkkmpieaa.Str Go.Proofs.Ytbimblfkkmpieaa.Ln Go.Proofs.Ytbimblfkkmpieaa.Cl Go.Proofs.Ytbimblfkkmpieaa.Mv Go.Proofs.Ytbimblfkkmpieaa.Pr Go.Proofs.Ytbimblfkkmpieaa.Wd
open Go.Proofs.Ytbimblfkkmpieaa.Wo (RgAt putR rgv ret_rb)
attribute [local go_sem] Oper.semAt_some

/-- Where the part of a line begins and ends that belongs to a range; the range's text. -/
def cF (fl fc j : Nat) : Nat := if j = fl then fc else 0
def cT (tl tc j z : Nat) : Nat := if j = tl then tc else z
def prt (fl fc tl tc : Nat) (x : Nat × ByteArray) : ByteArray := x.2.extract (cF fl fc x.1) (cT tl tc x.1 x.2.size)
def tx (ls : List ByteArray) (fl fc tl tc : Nat) : List ByteArray := (So.enr ls fl (tl + 1 - fl)).map (prt fl fc tl tc)
theorem tx_length (ls : List ByteArray) (fl fc tl tc : Nat) : (tx ls fl fc tl tc).length = tl + 1 - fl := by unfold tx; rw [List.length_map, So.enr_length]
theorem str_ext {x y : ByteArray} (h : x.data.toList = y.data.toList) : x = y := by
  cases x; cases y; simp only [ByteArray.mk.injEq]; exact Array.toList_inj.1 h
theorem ext_whole (s : ByteArray) : s.extract 0 s.size = s := str_ext (by rw [ext_upto, ← size_str, List.take_length])
/-- A range of bytes of the text. -/
structure Rv (ls : List ByteArray) (fl fc tl tc : Nat) : Prop where
  ft : fl ≤ tl
  ln : tl < ls.length
  c1 : fc ≤ (lineAt ls fl).size
  c2 : tc ≤ (lineAt ls tl).size
  one : fl = tl → fc ≤ tc
section
variable {ls : List ByteArray} {fl fc tl tc : Nat}
theorem Rv.plc1 (h : Rv ls fl fc tl tc) : Plc ls fl fc := (plc_nat (by have := h.ft; have := h.ln; omega)).2 h.c1
theorem Rv.plc2 (h : Rv ls fl fc tl tc) : Plc ls tl tc := (plc_nat h.ln).2 h.c2
theorem Rv.lt (h : Rv ls fl fc tl tc) : So.lt (tl : Int) (tc : Int) (fl : Int) (fc : Int) = false := by
  unfold So.lt
  rw [decide_eq_false_iff_not]
  have := h.ft
  have := h.one
  omega
theorem Rv.cols (h : Rv ls fl fc tl tc) {j : Nat} (h1 : fl ≤ j) (h2 : j ≤ tl) : cF fl fc j ≤ cT tl tc j (lineAt ls j).size ∧ cT tl tc j (lineAt ls j).size ≤ (lineAt ls j).size := by
  have q1 := h.c1
  have q2 := h.c2
  have q3 := h.one
  unfold cF cT
  by_cases e1 : j = fl
  · rw [if_pos e1]
    subst e1
    by_cases e2 : j = tl
    · rw [if_pos e2]; subst e2; exact ⟨q3 rfl, q2⟩
    · rw [if_neg e2]; exact ⟨q1, Nat.le_refl _⟩
  · rw [if_neg e1]
    by_cases e2 : j = tl
    · rw [if_pos e2]; subst e2; exact ⟨Nat.zero_le _, q2⟩
    · rw [if_neg e2]; exact ⟨Nat.zero_le _, Nat.le_refl _⟩
end

set_option maxHeartbeats 2000000 in
theorem valid5_yes (a : Option Addr) (n c' : Nat) (ls : List ByteArray) (fl fc tl tc : Nat) (w : World) (h : Ss w a n c' ls) (hv : Rv ls fl fc tl tc) :
    Calls Try.prog 20 #[.slice a n c', rgv 0 fl fc tl tc] w fun e w' => e = .returned (.bool true) ∧ Below w.heap.size w w' := by
  have hlen := h.length
  have hn63 := h.le63
  obtain ⟨X, hX⟩ : ∃ X, X = w.alloc (.cells #[.int .i64 0, .int .i64 fl, .int .i64 fc, .int .i64 tl, .int .i64 tc] 33) := ⟨_, rfl⟩
  have hr : RgAt X w.heap.size 0 fl fc tl tc := by rw [hX]; exact RgAt.new _ _ _ _ _ _
  have hb : Below w.heap.size w X := by rw [hX]; exact (Below.refl _ w).alloc (Nat.le_refl _) _
  have h1 := fun W (hW : Below X.heap.size X W) => place5_any a n c' ls fl fc W (SrcV.below h (hb.trans (hW.mono hb.size)))
  have h2 := fun W (hW : Below X.heap.size X W) => place5_any a n c' ls tl tc W (SrcV.below h (hb.trans (hW.mono hb.size)))
  have h3 := fun W => So.less5_any tl tc fl fc W
  rw [decide_eq_true hv.plc1] at h1
  rw [decide_eq_true hv.plc2] at h2
  rw [hv.lt] at h3
  have v1 := hv.ft
  have v2 := hv.ln
  have g1 : ¬ ((fl : Int) < 0) := by omega
  have g2 : ¬ ((n : Int) ≤ (tl : Int)) := by omega
  have g3 : ¬ ((tl : Int) < (fl : Int)) := by omega
  have g4 : (tl : Int) < (n : Int) := by omega
  have g5 : (fl : Int) ≤ (tl : Int) := by omega
  have r0 := hr.c0
  have r1 := hr.c1
  have r2 := hr.c2
  have r3 := hr.c3
  have r4 := hr.c4
  have HX := Lib.hid hX
  have HR := Lib.hid hr
  clear hX hr h hlen hv
  go_enter Try.func20, Try.ntmps20
  go_wp2_with fail
  rw [← HX.out]
  refine (h1 X (Below.refl _ X)).mono ?_
  rintro e w1 ⟨rfl, hb1⟩
  clear h1 r0 r1 r2 r3 r4
  have R1 := HR.out.below hb1 HR.out.lt
  have r0 := R1.c0
  have r1 := R1.c1
  have r2 := R1.c2
  have r3 := R1.c3
  have r4 := R1.c4
  have HB1 := Lib.hid hb1
  have HR1 := Lib.hid R1
  clear hb1 R1
  go_wp2_with fail
  refine (h2 w1 HB1.out).mono ?_
  rintro e w2 ⟨rfl, hb2⟩
  clear h2 r0 r1 r2 r3 r4
  have R2 := HR1.out.below hb2 HR1.out.lt
  have r0 := R2.c0
  have r1 := R2.c1
  have r2 := R2.c2
  have r3 := R2.c3
  have r4 := R2.c4
  have HB2 := Lib.hid (below_on HB1.out hb2)
  clear hb2 R2
  go_wp2_with fail
  refine (h3 w2).mono ?_
  rintro e w3 ⟨rfl, hb3⟩
  have hb := hb.trans ((below_on HB2.out hb3).mono hb.size)
  go_wp2
  go_ret
  exact ⟨rfl, hb⟩

/-- What stands between the rounds: the lines so far. -/
structure Tq (ls : List ByteArray) (fl fc tl tc : Nat) (w1 : World) (b : Option Addr) (k cc j : Nat) (wr : World) : Prop where
  row : wr.ownsRow w1.heap.size ES 1 (.slice b k cc) k (((So.enr ls fl (j - fl)).map (prt fl fc tl tc)).map Value.string)
  below : Below w1.heap.size w1 wr

set_option maxHeartbeats 8000000 in
theorem text5_yes (a : Option Addr) (n c' : Nat) (ls : List ByteArray) (fl fc tl tc : Nat) (w : World) (h : Ss w a n c' ls) (hs : ∀ s ∈ ls, s.size ≤ 140737488355328) (hn6 : n ≤ 1000000) (hv : Rv ls fl fc tl tc) :
    Calls Try.prog 12 #[.slice a n c', rgv 0 fl fc tl tc] w fun e w' => ∃ b k cc, e = .returned (.slice b k cc) ∧ Ss w' b k cc (tx ls fl fc tl tc) ∧ Below w.heap.size w w' := by
  obtain ⟨i0, hi0, hz0, hz1, hz2⟩ := info_parts infoS
  have hlen := h.length
  have hn63 := h.le63
  obtain ⟨X, hX⟩ : ∃ X, X = w.alloc (.cells #[.int .i64 0, .int .i64 fl, .int .i64 fc, .int .i64 tl, .int .i64 tc] 33) := ⟨_, rfl⟩
  have hr : RgAt X w.heap.size 0 fl fc tl tc := by rw [hX]; exact RgAt.new _ _ _ _ _ _
  have hb : Below w.heap.size w X := by rw [hX]; exact (Below.refl _ w).alloc (Nat.le_refl _) _
  have hva := valid5_yes a n c' ls fl fc tl tc X (SrcV.below h hb) hv
  have r0 := hr.c0
  have r1 := hr.c1
  have r2 := hr.c2
  have r3 := hr.c3
  have r4 := hr.c4
  have HX := Lib.hid hX
  have HR := Lib.hid hr
  have HB := Lib.hid hb
  have HV := Lib.hid hv
  have HS := Lib.hid h
  have v1 := hv.ft
  have v2 := hv.ln
  have hXz : w.heap.size < X.heap.size := hr.lt
  clear hX hr hb hv h
  go_enter Try.func12, Try.ntmps12
  go_wp2_with fail
  rw [← HX.out]
  refine hva.mono ?_
  rintro e w1 ⟨rfl, hb1⟩
  clear hva r0 r1 r2 r3 r4
  have R1 := HR.out.below hb1 HR.out.lt
  have r0 := R1.c0
  have r1 := R1.c1
  have r2 := R1.c2
  have r3 := R1.c3
  have r4 := R1.c4
  have HR1 := Lib.hid R1
  have HB1 := Lib.hid (HB.out.trans (hb1.mono HB.out.size))
  have HS1 := Lib.hid (SrcV.below HS.out HB1.out)
  clear hb1 R1 HR HS hXz HB HX
  go_wp2
  clear r0 r1 r2 r3 r4
  go_loopw [5, 6] (fun u v wr => ∃ (j k cc : Nat) (b : Option Addr), u = .slice b k cc ∧ v = .int .i64 j ∧ fl ≤ j ∧ j ≤ tl + 1 ∧ k + fl = j ∧ Hid (Tq ls fl fc tl tc w1 b k cc j wr)) (fun _ v _ => tl + 1 - (RowKit.intOf v).toNat)
  case atStart => exact ⟨fl, 0, 0, none, rfl, rfl, Nat.le_refl _, by omega, by omega, by rw [Nat.sub_self]; exact World.ownsRow_nil w1 w1.heap.size ES 1, Below.refl _ _⟩
  case round =>
    obtain ⟨j, k, cc, b, rfl, rfl, hj1, hj2, hkj, hQ⟩ := hrel
    have R := HR1.out.below hQ.out.below HR1.out.lt
    have r0 := R.c0
    have r1 := R.c1
    have r2 := R.c2
    have r3 := R.c3
    have r4 := R.c4
    clear R
    by_cases hjt : j ≤ tl
    rotate_left
    · obtain rfl : j = tl + 1 := by omega
      have hnot : ¬ ((tl : Int) + 1 ≤ (tl : Int)) := by omega
      go_wp2
      go_ret
      obtain ⟨hrow, hbl⟩ := hQ.out
      exact ⟨b, k, cc, rfl, SrcV.ofOwn hrow (by simp [Value.oneCell']), below_on HB1.out hbl⟩
    have hjn : j < ls.length := by omega
    obtain ⟨g, o, rfl, hcx, hnc⟩ := Ss.read (SrcV.below HS1.out hQ.out.below) j (by omega)
    rw [← lineAt_get hjn] at hcx
    have hsz := hs (lineAt ls j) (by rw [lineAt_get hjn]; exact List.getElem_mem hjn)
    have hcl := HV.out.cols hj1 hjt
    have hsn := (So.enr_step ls fl (tl + 1 - fl) j hj1 (by omega)).2
    have hpt : prt fl fc tl tc (j, lineAt ls j) = (lineAt ls j).extract (cF fl fc j) (cT tl tc j (lineAt ls j).size) := rfl
    obtain ⟨st, hst⟩ : ∃ st, st = lineAt ls j := ⟨_, rfl⟩
    rw [← hst] at hcx hsz hcl hsn hpt
    have hwj : IntKind.i64.wrap ((j : Int) + 1) = ((j + 1 : Nat) : Int) := by rw [IntKind.wrap_i64]; omega
    have hjn' : (j : Int) < (n : Int) := by omega
    have hjt' : (j : Int) ≤ (tl : Int) := by omega
    obtain ⟨F, hF⟩ : ∃ F, F = cF fl fc j := ⟨_, rfl⟩
    obtain ⟨T, hT⟩ : ∃ T, T = cT tl tc j st.size := ⟨_, rfl⟩
    rw [← hF, ← hT] at hcl hpt
    obtain ⟨hFT, hTs⟩ := hcl
    have hrow := ownsRow_fr hQ.out.row ((Fr.refl (fun _ => False) wr).alloc (.cells #[.string (st.extract F T)] ES)) (by simp)
    have hsrc := SrcV.lit wr #[.string (st.extract F T)] ES 1 rfl (by simp [Value.oneCell']) (by simp [maxLen])
    have hlw : w1.heap.size ≤ (wr.alloc (.cells #[.string (st.extract F T)] ES)).heap.size := by have := hQ.out.below.size; simp; omega
    have HR3 := Lib.hid hrow
    have HS3 := Lib.hid hsrc
    have HL3 := Lib.hid hlw
    have HP := Lib.hid hpt
    have HN := Lib.hid hsn
    clear hrow hsrc hlw hpt hsn hst
    unfold cF at hF
    unfold cT at hT
    by_cases et : j = tl
    · by_cases ef : j = fl
      · rw [if_pos et] at hT
        rw [if_pos ef] at hF
        have b1 : ((j : Int) == (tl : Int)) = true := by rw [beq_iff_eq]; omega
        have b2 : ((j : Int) == (fl : Int)) = true := by rw [beq_iff_eq]; omega
        have b3 : (j == tl) = true := by rw [beq_iff_eq]; exact et
        have b4 : (j == fl) = true := by rw [beq_iff_eq]; exact ef
        subst hF hT
        clear et ef
        go_wp2_with (at_builtin; go_must (refine append_srcv _ rfl _ _ 22 rfl w1.heap.size ES i0 (.string ⟨#[]⟩) 1 16 underS hi0 hz0 hz1 hz2 rfl (by decide) _ k _ rfl HR3.out _ 1 [.string (st.extract F T)] rfl HS3.out (by simp only [maxLen]; omega) (by omega) HL3.out ?_); intro b' c' w3 hown1 hg hnr)
        have HO := Lib.hid hown1
        have HG := Lib.hid hg
        clear hown1 hg hnr
        go_roundw
        case rel =>
          refine ⟨j + 1, k + 1, c', b', rfl, by go_num, by omega, by omega, by omega, ?_, ?_⟩
          · rw [HN.out, List.map_append, List.map_append, List.map_cons, List.map_nil, List.map_cons, List.map_nil, HP.out]; exact HO.out
          · exact (hQ.out.below.alloc hQ.out.below.size _).trans ((Below.refl w1.heap.size _).grown HG.out HL3.out (fun g hgg => (HR3.out.lt g hgg).1))
        case measure => simp [RowKit.intOf]; omega
      · rw [if_pos et] at hT
        rw [if_neg ef] at hF
        have b1 : ((j : Int) == (tl : Int)) = true := by rw [beq_iff_eq]; omega
        have b2 : ((j : Int) == (fl : Int)) = false := by rw [beq_eq_false_iff_ne]; omega
        have b3 : (j == tl) = true := by rw [beq_iff_eq]; exact et
        have b4 : (j == fl) = false := by rw [beq_eq_false_iff_ne]; exact ef
        subst hF hT
        clear et ef
        go_wp2_with (at_builtin; go_must (refine append_srcv _ rfl _ _ 22 rfl w1.heap.size ES i0 (.string ⟨#[]⟩) 1 16 underS hi0 hz0 hz1 hz2 rfl (by decide) _ k _ rfl HR3.out _ 1 [.string (st.extract 0 T)] rfl HS3.out (by simp only [maxLen]; omega) (by omega) HL3.out ?_); intro b' c' w3 hown1 hg hnr)
        have HO := Lib.hid hown1
        have HG := Lib.hid hg
        clear hown1 hg hnr
        go_roundw
        case rel =>
          refine ⟨j + 1, k + 1, c', b', rfl, by go_num, by omega, by omega, by omega, ?_, ?_⟩
          · rw [HN.out, List.map_append, List.map_append, List.map_cons, List.map_nil, List.map_cons, List.map_nil, HP.out]; exact HO.out
          · exact (hQ.out.below.alloc hQ.out.below.size _).trans ((Below.refl w1.heap.size _).grown HG.out HL3.out (fun g hgg => (HR3.out.lt g hgg).1))
        case measure => simp [RowKit.intOf]; omega
    · by_cases ef : j = fl
      · rw [if_neg et] at hT
        rw [if_pos ef] at hF
        have b1 : ((j : Int) == (tl : Int)) = false := by rw [beq_eq_false_iff_ne]; omega
        have b2 : ((j : Int) == (fl : Int)) = true := by rw [beq_iff_eq]; omega
        have b3 : (j == tl) = false := by rw [beq_eq_false_iff_ne]; exact et
        have b4 : (j == fl) = true := by rw [beq_iff_eq]; exact ef
        subst hF hT
        clear et ef
        go_wp2_with (at_builtin; go_must (refine append_srcv _ rfl _ _ 22 rfl w1.heap.size ES i0 (.string ⟨#[]⟩) 1 16 underS hi0 hz0 hz1 hz2 rfl (by decide) _ k _ rfl HR3.out _ 1 [.string (st.extract F st.size)] rfl HS3.out (by simp only [maxLen]; omega) (by omega) HL3.out ?_); intro b' c' w3 hown1 hg hnr)
        have HO := Lib.hid hown1
        have HG := Lib.hid hg
        clear hown1 hg hnr
        go_roundw
        case rel =>
          refine ⟨j + 1, k + 1, c', b', rfl, by go_num, by omega, by omega, by omega, ?_, ?_⟩
          · rw [HN.out, List.map_append, List.map_append, List.map_cons, List.map_nil, List.map_cons, List.map_nil, HP.out]; exact HO.out
          · exact (hQ.out.below.alloc hQ.out.below.size _).trans ((Below.refl w1.heap.size _).grown HG.out HL3.out (fun g hgg => (HR3.out.lt g hgg).1))
        case measure => simp [RowKit.intOf]; omega
      · rw [if_neg et] at hT
        rw [if_neg ef] at hF
        have b1 : ((j : Int) == (tl : Int)) = false := by rw [beq_eq_false_iff_ne]; omega
        have b2 : ((j : Int) == (fl : Int)) = false := by rw [beq_eq_false_iff_ne]; omega
        have b3 : (j == tl) = false := by rw [beq_eq_false_iff_ne]; exact et
        have b4 : (j == fl) = false := by rw [beq_eq_false_iff_ne]; exact ef
        subst hF hT
        clear et ef
        rw [show st.extract 0 st.size = st from ext_whole st] at HR3 HS3 HL3 HP
        go_wp2_with (at_builtin; go_must (refine append_srcv _ rfl _ _ 22 rfl w1.heap.size ES i0 (.string ⟨#[]⟩) 1 16 underS hi0 hz0 hz1 hz2 rfl (by decide) _ k _ rfl HR3.out _ 1 [.string st] rfl HS3.out (by simp only [maxLen]; omega) (by omega) HL3.out ?_); intro b' c' w3 hown1 hg hnr)
        have HO := Lib.hid hown1
        have HG := Lib.hid hg
        clear hown1 hg hnr
        go_roundw
        case rel =>
          refine ⟨j + 1, k + 1, c', b', rfl, by go_num, by omega, by omega, by omega, ?_, ?_⟩
          · rw [HN.out, List.map_append, List.map_append, List.map_cons, List.map_nil, List.map_cons, List.map_nil, HP.out]; exact HO.out
          · exact (hQ.out.below.alloc hQ.out.below.size _).trans ((Below.refl w1.heap.size _).grown HG.out HL3.out (fun g hgg => (HR3.out.lt g hgg).1))
        case measure => simp [RowKit.intOf]; omega
end Go.Proofs.Ytbimblfkkmpieaa.Bo
