/-
  The law JumpsBack, walked.
-/
import Derived.Test.YtfclclnlmhbgiaaUset
set_option linter.unusedVariables false
set_option linter.unusedSimpArgs false
set_option maxRecDepth 100000
namespace Go.Proofs.Ytfclclnlmhbgiaa.JBack
open Go Go.RowKit Go.Proofs.Ytfclclnlmhbgiaa.Vk Go.Proofs.Ytfclclnlmhbgiaa.Str Go.Proofs.Ytfclclnlmhbgiaa.Ln Go.Proofs.Ytfclclnlmhbgiaa.Cl Go.Proofs.Ytfclclnlmhbgiaa.Ml Go.Proofs.Ytfclclnlmhbgiaa.Mk Go.Proofs.Ytfclclnlmhbgiaa.Jp Go.Proofs.Ytfclclnlmhbgiaa.JMany Go.Proofs.Ytfclclnlmhbgiaa.JSet
attribute [local go_sem] Oper.semAt_some

theorem u8_of {l : Int} (h : (Lit.int .u8 l).wf = true) : 0 ≤ l ∧ l ≤ 255 := by simpa [Lit.wf, show IntKind.u8.min = 0 from rfl, show IntKind.u8.max = 255 from rfl] using h
/-- Between the rounds: k lines are pushed. -/
structure Rb (w : World) (l m k : Nat) (ps : List P2) (wr : World) : Prop where
  ls : LstE wr l ps ps.length
  st : SetW wr m (lns ps)
  le : ps.length ≤ k
  nd : (lns ps).Nodup
  rng : ∀ z ∈ lns ps, 0 ≤ z ∧ z ≤ 255
  bel : Below w.heap.size w wr
  hl : w.heap.size ≤ l
  hm : w.heap.size ≤ m
  ne : l ≠ m

set_option maxHeartbeats 8000000 in
theorem walk (sa : Option Addr) (M cp : Nat) (zs : List Int) (at' nn : Int) (w : World) (hs : SrcV w 1 (.slice sa M cp) M (zs.map (.int .u8))) (hz : ∀ z ∈ zs, (Lit.int .u8 z).wf = true) (hwa : (Lit.int .u8 at').wf = true) (hwn : (Lit.int .u8 nn).wf = true) :
    Calls Try.prog 4 #[.slice sa M cp, .int .u8 at', .int .u8 nn] w fun e w' => e = .returned (.bool true) ∧ Below w.heap.size w w' := by
  have hk := known_any w
  have hmm := @run_makeMap Try.prog
  have hat := u8_of hwa
  have hnn := u8_of hwn
  have hlen : zs.length = M := by have := hs.1; simpa using this
  have HS := Lib.hid hs
  have HZ := Lib.hid hz
  have HLEN := Lib.hid hlen
  have hM63 : M ≤ 9223372036854775807 := by have := hs.2.2.1; simpa [maxLen] using this
  clear hs hz hlen hwa hwn
  go_enter Try.func4, Try.ntmps4
  go_wp2_with fail
  refine hk.mono ?_
  rintro e w1 ⟨rfl, hb1⟩
  have HB := Lib.hid hb1
  clear hk hb1
  by_cases h12 : 12 < M
  · go_wp2
    go_ret
    exact ⟨rfl, HB.out⟩
  go_wp2_with fail
  refine (new_e _).mono ?_
  rintro e w2 ⟨l, rfl, hl2, hb2, hlw⟩
  have hlt2 := hl2.lt
  have hR0 : Rb w l w2.heap.size 0 [] (w2.alloc (.map #[] 0)) := ⟨hl2.below ((Below.refl _ _).alloc (Nat.le_refl _) _), SetW.new w2, Nat.le_refl _, List.nodup_nil, (fun _ h => by cases h), (Vk.below_on HB.out hb2).alloc (Vk.below_on HB.out hb2).size _, by have := HB.out.size; omega, (Vk.below_on HB.out hb2).size, by omega⟩
  have HR0 := Lib.hid hR0
  clear hl2 hb2 hlw hR0
  go_wp2_with fail
  obtain ⟨m, hm⟩ : ∃ m, m = w2.heap.size := ⟨_, rfl⟩
  rw [← hm] at HR0 ⊢
  have HM := Lib.hid hm
  clear hmm hm hlt2
  go_loopw [9] (fun i wr => ∃ (k : Nat) (ps : List P2), k ≤ M ∧ i = .int .i64 k ∧ Hid (Rb w l m k ps wr)) (fun i _ => M - (RowKit.intOf i).toNat)
  case atStart => exact ⟨0, [], Nat.zero_le _, rfl, HR0⟩
  case round =>
    obtain ⟨k, ps, hkM, rfl, HW⟩ := hrel
    by_cases hk : k < M
    · obtain ⟨z, hzk⟩ : ∃ z, zs[k]? = some z := ⟨_, List.getElem?_eq_getElem (by have := HLEN.out; omega)⟩
      have hzw := HZ.out z (List.mem_of_getElem? hzk)
      have hzb : 0 ≤ z ∧ z ≤ 255 := u8_of hzw
      obtain ⟨g, o, rfl, e0, hcp, hcp2⟩ := HS.out.at (j := k) (u := .int .u8 z) (by rw [List.getElem?_map, hzk]; rfl)
      have hgw := World.block_lt_of_cell? w _ e0
      simp only at hgw
      have e0 := cell_later HW.out.bel e0
      have hconv : IntKind.i64.wrap z = z := by rw [IntKind.wrap_i64]; omega
      have hle := HW.out.le
      clear hzk hzw
      go_wp2_with fail
      refine (HW.out.ls.push z k (by omega) (Nat.le_refl _)).mono ?_
      rintro e A1 ⟨rfl, h1, f1⟩
      have hlw := HW.out.hl
      have hmw := HW.out.hm
      have hlm := HW.out.ne
      have e0 := f1.cell e0 (by simp only; omega)
      have hst1 := HW.out.st.fr f1 (fun e => hlm e.symm)
      have hb1 : Below w.heap.size w A1 := HW.out.bel.trans (f1.below HW.out.bel.size (fun i e => by omega))
      obtain ⟨A2, hup, hst2, f2⟩ := hst1.put (L' := lns (pshL ps (z, (k : Int)))) (by rw [length_lns]; omega) (z := z) (by omega) (push_mem z k (by omega)) (push_length z k (by omega) HW.out.nd)
      obtain ⟨es, clock, hmb⟩ := hst1.block
      have hls2 : LstE A2 l (pshL ps (z, (k : Int))) (pshL ps (z, (k : Int))).length := JSet.LstE.frm h1 f2 hlm hmb
      have hle2 : (pshL ps (z, (k : Int))).length ≤ k + 1 := by
        have := push_length z (k : Int) (by omega) HW.out.nd
        rw [length_lns, length_lns] at this
        rw [this]
        split <;> omega
      have HN : Hid (Rb w l m (k + 1) (pshL ps (z, (k : Int))) A2) := ⟨hls2, hst2, hle2, push_nodup z k (by omega) HW.out.nd, (fun y hy => by
        rcases (push_mem z (k : Int) (by omega) y).1 hy with rfl | h
        · exact hzb
        · exact HW.out.rng y h), hb1.trans (f2.below hb1.size (fun i e => by omega)), hlw, hmw, hlm⟩
      clear h1 f1 hst1 hb1 hst2 f2 hmb hls2 hle2
      go_wp2
      go_roundw
      case rel => exact ⟨k + 1, _, by omega, by go_num, HN⟩
      case measure => simp [RowKit.intOf]; omega
    · obtain rfl : k = M := by omega
      have t1 : 0 ≤ nn % 14 ∧ nn % 14 < 14 := by omega
      obtain ⟨J, hJ⟩ : ∃ J : Nat, (J : Int) = nn % 14 + 1 := ⟨(nn % 14 + 1).toNat, by omega⟩
      have hJ1 : 1 ≤ J ∧ J ≤ 14 := by omega
      have v1 : IntKind.i64.wrap at' = at' := by rw [IntKind.wrap_i64]; omega
      have v2 : IntKind.i64.wrap (1000 + at') = 1000 + at' := by rw [IntKind.wrap_i64]; omega
      have v3 : IntKind.i64.wrap (nn % 14) = nn % 14 := by rw [IntKind.wrap_i64]; omega
      have v4 : IntKind.i64.wrap (nn % 14 + 1) = nn % 14 + 1 := by rw [IntKind.wrap_i64]; omega
      have hle := HW.out.le
      have hn12 : ps.length ≤ 15 := by omega
      obtain ⟨H, hH⟩ : ∃ H : Int, H = 1000 + at' := ⟨_, rfl⟩
      have hnot : H ∉ lns ps := fun h => by have := HW.out.rng H h; omega
      have hpn : pshL ps (H, 3) = ps ++ [(H, 3)] := push_new hn12 hnot
      obtain ⟨w3, hw3⟩ : ∃ v, v = wr.alloc (.cells #[.int .i64 H, .int .i64 3] 31) := ⟨_, rfl⟩
      obtain ⟨gh, hgh⟩ : ∃ g, g = wr.heap.size := ⟨_, rfl⟩
      have hb3 : Below wr.heap.size wr w3 := by rw [hw3]; exact (Below.refl _ _).alloc (Nat.le_refl _) _
      have hp3 : PosAt w3 gh H 3 := by rw [hw3, hgh]; exact PosAt.new _ _ _
      have hlg : l < gh := by rw [hgh]; exact HW.out.ls.lt
      have hmg : m < gh := by
        rw [hgh]
        obtain ⟨es, clock, hmb⟩ := HW.out.st.block
        exact (Array.getElem?_eq_some_iff.1 hmb).1
      have HO := Lib.hid ((HW.out.ls.below hb3).older H 3 J (by omega) (Nat.le_refl _))
      have HS3 := Lib.hid (And.intro (HW.out.st.below hb3) (And.intro hp3 (Vk.below_on HW.out.bel hb3)))
      have z0 := hp3.c0
      have z1 := hp3.c1
      have HT := Lib.hid (And.intro hnot hpn)
      have hv2 : IntKind.i64.wrap (1000 + at') = H := by rw [v2, hH]
      have hs3 := hb3.size
      have HHJ := Lib.hid (And.intro hH hJ)
      clear v2 hnot hpn hb3 hp3 hH hJ
      rw [hw3] at z0 z1
      have hgz : PosAt (wr.alloc (.cells #[.int .i64 H, .int .i64 3] 31)) wr.heap.size H 3 := PosAt.new _ _ _
      rw [hgh] at z0 z1
      go_upto_region 14 with fail
      rw [← HHJ.out.2, ← hw3, ← hgh]
      clear hw3 hgh hgz v3 v4 t1 v1 hv2
      have z0 := HS3.out.2.1.c0
      have z1 := HS3.out.2.1.c1
      by_cases hJn : J ≤ ps.length
      · have hok : olOk ps.length (J : Int) = true := by unfold olOk; simp only [decide_eq_true_eq]; omega
        have hl1 : olL ps ps.length (H, 3) = ps ++ [(H, 3)] := by unfold olL; rw [if_pos rfl]; exact HT.out.2
        have hk1 : olK ps ps.length (H, 3) = ps.length := by unfold olK; rw [if_pos rfl, HT.out.2, List.length_append, List.length_singleton]; rfl
        have hi1 : olI ps ps.length (H, 3) (J : Int) = ps.length - J := by unfold olI; rw [hk1]; simp
        obtain ⟨x', y', o', hans⟩ : ∃ x y o, ansV (olOk ps.length (J : Int)) (olQ ps ps.length (H, 3) (J : Int)) = .tuple #[.agg #[.int .i64 x, .int .i64 y], .bool o] ∧ o = true := by
          rw [hok]; exact ⟨_, _, _, rfl, rfl⟩
        obtain ⟨hans, rfl⟩ := hans
        have ho := HO.out
        rw [hans, hok, if_pos rfl, if_pos rfl, hl1, hi1] at ho
        have HO2 := Lib.hid ho
        clear ho hans hok hl1 hk1 hi1 HO
        go_wp2_with fail
        refine HO2.out.mono ?_
        rintro e A1 ⟨rfl, h1, f1⟩
        have hst1 := HS3.out.1.fr f1 (fun e => HW.out.ne e.symm)
        have hp1 := HS3.out.2.1.fr f1 (by omega)
        have hbw1 : Below w.heap.size w A1 := HS3.out.2.2.trans (f1.below HS3.out.2.2.size (fun i e => by have := HW.out.hl; omega))
        obtain ⟨A2, hA2⟩ : ∃ v, v = A1.alloc (.cells #[.int .i64 x', .int .i64 y'] 31) := ⟨_, rfl⟩
        have hb2 : Below A1.heap.size A1 A2 := by rw [hA2]; exact (Below.refl _ _).alloc (Nat.le_refl _) _
        have hlenm := fun ty => (hst1.below hb2).len ty
        rw [length_lns] at hlenm
        have hnw : nwOk (ps ++ [(H, 3)]) (ps.length - J) (J : Int) = true := by unfold nwOk; simp only [decide_eq_true_eq, List.length_append, List.length_singleton]; omega
        have hnq : nwQ (ps ++ [(H, 3)]) (ps.length - J) (J : Int) = (H, 3) := by
          unfold nwQ
          rw [Int.toNat_natCast, show ps.length - J + J = ps.length by omega, List.getD_eq_getElem?_getD, List.getElem?_append_right (Nat.le_refl _)]
          simp
        have hn1 := h1.newer' hb2 J (by rw [List.length_append, List.length_singleton]; omega) (by rw [List.length_append, List.length_singleton]; omega)
        rw [hnw, hnq, if_pos rfl, Int.toNat_natCast, show ps.length - J + J = ps.length by omega] at hn1
        have HN1 := Lib.hid hn1
        have HP1 := Lib.hid (hp1.below hb2 hp1.lt)
        have HB2 := Lib.hid (hbw1.trans (hb2.mono hbw1.size))
        have hs2 := hb2.size
        have hlA := h1.lt
        rw [hA2] at hlenm
        have hb1' : (true != true) = false := rfl
        have hJd : decide ((J : Int) ≤ (ps.length : Int)) = true := by simp; omega
        clear h1 f1 hst1 hp1 hbw1 hb2 hnw hnq hn1 z0 z1
        go_wp2_with fail
        rw [← hA2]
        clear hA2 hlenm
        refine HN1.out.mono ?_
        rintro e A3 ⟨rfl, h3, f3⟩
        have hp3 := HP1.out.fr f3 (by omega)
        have hbw3 : Below w.heap.size w A3 := HB2.out.trans (f3.below HB2.out.size (fun i e => by have := HW.out.hl; omega))
        have e3 : ansV true (H, 3) = .tuple #[.agg #[.int .i64 H, .int .i64 3], .bool true] := rfl
        rw [e3]
        obtain ⟨A4, hA4⟩ : ∃ v, v = A3.alloc (.cells #[.int .i64 H, .int .i64 3] 31) := ⟨_, rfl⟩
        obtain ⟨gp, hgp⟩ : ∃ g, g = A3.heap.size := ⟨_, rfl⟩
        have hb4 : Below A3.heap.size A3 A4 := by rw [hA4]; exact (Below.refl _ _).alloc (Nat.le_refl _) _
        have q4 : PosAt A4 gp H 3 := by rw [hA4, hgp]; exact PosAt.new _ _ _
        have hnw : nwOk (ps ++ [(H, 3)]) ps.length 1 = false := by unfold nwOk; simp only [decide_eq_false_iff_not, List.length_append, List.length_singleton]; omega
        have hn1 := h3.newer' hb4 1 (by rw [List.length_append, List.length_singleton]; omega) (by rw [List.length_append, List.length_singleton]; omega)
        rw [hnw] at hn1
        have hlA3 := h3.lt
        have HN4 := Lib.hid hn1
        have HP4 := Lib.hid (And.intro (hp3.below hb4 hp3.lt) q4)
        have HB4 := Lib.hid (hbw3.trans (hb4.mono hbw3.size))
        clear h3 f3 hp3 hbw3 e3 hb4 q4 hnw hn1 HN1 HP1
        go_wp2_with fail
        rw [← hA4, ← hgp]
        have hlp : l < gp := by omega
        clear hA4 hgp
        refine HN4.out.mono ?_
        rintro e A5 ⟨rfl, h5, f5⟩
        have hp5 := HP4.out.1.fr f5 (by omega)
        have hq5 := HP4.out.2.fr f5 (by omega)
        have hbw5 : Below w.heap.size w A5 := HB4.out.trans (f5.below HB4.out.size (fun i e => by have := HW.out.hl; omega))
        have e5 : ∀ q, ansV false q = .tuple #[.agg #[.int .i64 0, .int .i64 0], .bool false] := fun _ => rfl
        rw [e5]
        have z0 := hp5.c0
        have z1 := hp5.c1
        have z2 := hq5.c0
        have z3 := hq5.c1
        have l0 := hp5.lt
        have l1 := hq5.lt
        have hb6 := (Below.refl A5.heap.size A5).alloc (Nat.le_refl _) (.cells #[.int .i64 0, .int .i64 0] 31)
        have z0' := cell_later hb6 z0
        have z1' := cell_later hb6 z1
        have z2' := cell_later hb6 z2
        have z3' := cell_later hb6 z3
        have heq := eq_pos H 3 H 3 (A5.alloc (.cells #[.int .i64 0, .int .i64 0] 31))
        simp only [decide_true, Bool.and_self] at heq
        have HB6 := Lib.hid (hbw5.alloc hbw5.size (.cells #[.int .i64 0, .int .i64 0] 31))
        clear h5 f5 hp5 hq5 hbw5 e5 z0 z1 z2 z3 hb6 HN4 HP4
        go_wp2
        all_goals go_ret
        all_goals exact ⟨rfl, HB6.out⟩
      · have hok : olOk ps.length (J : Int) = false := by unfold olOk; simp only [decide_eq_false_iff_not]; omega
        have ho := HO.out
        rw [hok] at ho
        have HO2 := Lib.hid ho
        clear ho hok HO
        go_wp2_with fail
        refine HO2.out.mono ?_
        rintro e A1 ⟨rfl, h1, f1⟩
        have e5 : ∀ q, ansV false q = .tuple #[.agg #[.int .i64 0, .int .i64 0], .bool false] := fun _ => rfl
        rw [e5]
        have hst1 := HS3.out.1.fr f1 (fun e => HW.out.ne e.symm)
        have hbw1 : Below w.heap.size w A1 := HS3.out.2.2.trans (f1.below HS3.out.2.2.size (fun i e => by have := HW.out.hl; omega))
        have hb2 := (Below.refl A1.heap.size A1).alloc (Nat.le_refl _) (.cells #[.int .i64 0, .int .i64 0] 31)
        have hlenm := fun ty => (hst1.below hb2).len ty
        rw [length_lns] at hlenm
        have hJd : decide ((J : Int) ≤ (ps.length : Int)) = false := by simp; omega
        have HB6 := Lib.hid (hbw1.alloc hbw1.size (.cells #[.int .i64 0, .int .i64 0] 31))
        clear h1 f1 hst1 hbw1 hb2 e5 z0 z1
        go_wp2
        all_goals go_ret
        all_goals exact ⟨rfl, HB6.out⟩

end Go.Proofs.Ytfclclnlmhbgiaa.JBack
