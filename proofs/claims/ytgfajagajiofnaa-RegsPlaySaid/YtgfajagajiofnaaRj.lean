/-
  Join: the package's, the document's.
-/
import Derived.Test.YtgfajagajiofnaaRc
import Derived.Test.YtgfajagajiofnaaQu
set_option linter.unusedVariables false
set_option linter.unusedSimpArgs false
set_option maxRecDepth 100000
namespace Go.Proofs.Ytgfajagajiofnaa.Rg
open Go Go.RowKit Go.Proofs.Ytgfajagajiofnaa.Vk Go.Proofs.Ytgfajagajiofnaa.Str Go.Proofs.Ytgfajagajiofnaa.Ln Go.Proofs.Ytgfajagajiofnaa.Cl Go.Proofs.Ytgfajagajiofnaa.Rl
attribute [local go_sem] Oper.semAt_some

/-- Two registers in variables, and a third one for the answer. -/
abbrev bx (w : World) (k1 : Int) (a1 : Option Addr) (n1 c1 : Nat) (k2 : Int) (a2 : Option Addr) (n2 c2 : Nat) : World :=
  ((w.alloc (.cells #[.int .i64 k1, .slice a1 n1 c1] TR)).alloc (.cells #[.int .i64 k2, .slice a2 n2 c2] TR)).alloc (.cells #[.int .i64 0, .slice none 0 0] TR)
theorem box3 (w : World) (k1 : Int) (a1 : Option Addr) (n1 c1 : Nat) (k2 : Int) (a2 : Option Addr) (n2 c2 : Nat) : Below w.heap.size w (bx w k1 a1 n1 c1 k2 a2 n2 c2) ∧
    RegAt (bx w k1 a1 n1 c1 k2 a2 n2 c2) w.heap.size (k1, a1, n1, c1) ∧ RegAt (bx w k1 a1 n1 c1 k2 a2 n2 c2) (w.heap.size + 1) (k2, a2, n2, c2) ∧ RegAt (bx w k1 a1 n1 c1 k2 a2 n2 c2) (w.heap.size + 2) (0, none, 0, 0) := by
  refine ⟨below_on (one_below _ _) (below_on (one_below _ _) (one_below _ _)), ?_, ?_, ?_⟩
  · exact (RegAt.new w (k1, a1, n1, c1)).below (below_on (one_below _ _) (one_below _ _)) (by simp)
  · have h := (RegAt.new (w.alloc (.cells #[.int .i64 k1, .slice a1 n1 c1] TR)) (k2, a2, n2, c2)).below (one_below _ (.cells #[.int .i64 0, .slice none 0 0] TR)) (by simp [sv])
    rw [show (w.alloc (.cells #[.int .i64 k1, .slice a1 n1 c1] TR)).heap.size = w.heap.size + 1 by simp] at h
    exact h
  · have h := RegAt.new ((w.alloc (.cells #[.int .i64 k1, .slice a1 n1 c1] TR)).alloc (.cells #[.int .i64 k2, .slice a2 n2 c2] TR)) (0, none, 0, 0)
    rw [show ((w.alloc (.cells #[.int .i64 k1, .slice a1 n1 c1] TR)).alloc (.cells #[.int .i64 k2, .slice a2 n2 c2] TR)).heap.size = w.heap.size + 2 by simp] at h
    exact h
theorem cat_two (x y : Sl) (a b : List ByteArray) : cat [(x, a), (y, b)] = a ++ b := by simp [cat]
theorem cat_three (x y z : Sl) (a b c : List ByteArray) : cat [(x, a), (y, b), (z, c)] = a ++ (b ++ c) := by simp [cat]
/-- What stands at the answer's variable when the answer is written. -/
theorem put_ans {w X Y : World} {B g : Nat} {k : Int} {s : Sl} {ls : List ByteArray} {b : Nat} (hg : w.heap.size ≤ g) (hB : B ≤ w.heap.size) (hb3 : Below w.heap.size w X) (hr : RegAt X g (0, none, 0, 0)) (ho : X.ownsRow b ES 1 (sv s) s.2.1 (ls.map .string))
    (hY : Below X.heap.size ((X.setCell ⟨g, 0, none⟩ (.int .i64 k)).setCell ⟨g, 1, none⟩ (sv s)) Y) : RegAt Y g (k, s) ∧ El Y B (k, s) (k, ls) ∧ Below w.heap.size w Y := by
  have hf := (((Fr.refl (fun j => j = g) X).setCell (p := ⟨g, 0, none⟩) (fun _ => rfl) (.int .i64 k)).setCell (p := ⟨g, 1, none⟩) (fun _ => rfl) (sv s)).trans (Fr.ofBelow (by simpa [World.setCell] using hY) (fun j => j = g))
  refine ⟨(hr.set (k, s)).below hY hr.lt, ?_, ?_⟩
  · obtain ⟨a, n, c⟩ := s
    exact (El.own (B := B) (k := k) ho).fr hf (fun j hj h => hr.ro (by omega) (hj ▸ h))
  · exact ((hb3.setCell (p := ⟨g, 0, none⟩) hg (.int .i64 k)).setCell (p := ⟨g, 1, none⟩) hg (sv s)).trans (hY.mono hb3.size)

theorem exec_append {P : Program} {o : Oper} {a : Act} {W W' : World} {s x : Operand} {t : TypeId} {v xv u : Value} (ho : o.op = .call { callee := .builtin .append, args := #[s, x], argTypes := #[t, t] }) (hs : a.eval s = v) (hx : a.eval x = xv)
    (hr : (Builtin.append_ #[t, t] o.type #[v, xv]).run P W = .ok u W') : (execOp a.eval o).run P W = .ok (.value u) W' := by
  simp [execOp, ho, resolve, invoke, builtin, hs, hx, hr, Result.andThen]
set_option maxHeartbeats 2000000 in
theorem join_any (k1 : Int) (a1 : Option Addr) (n1 c1 : Nat) (g : G) (k2 : Int) (a2 : Option Addr) (n2 c2 : Nat) (h : G) (w : World) (B : Nat) (hg : El w B (k1, a1, n1, c1) g) (hh : El w B (k2, a2, n2, c2) h) (hl : g.2.length + h.2.length ≤ 100000)
    (hs1 : ∀ s ∈ g.2, s.size ≤ 140737488355328) (hs2 : ∀ s ∈ h.2, s.size ≤ 140737488355328) (hB : B ≤ w.heap.size) : Calls Try.prog 24 #[.agg #[.int .i64 k1, .slice a1 n1 c1], .agg #[.int .i64 k2, .slice a2 n2 c2]] w fun e w' => RgOut w B (jn g h) e w' := by
  obtain ⟨i0, hi0, hz0, hz1, hz2⟩ := info_parts infoS
  obtain ⟨kg, lg⟩ := g
  obtain ⟨kh, lh⟩ := h
  obtain ⟨rfl, h1, _⟩ := hg
  obtain ⟨rfl, h2, _⟩ := hh
  simp only at h1 h2 hl hs1 hs2
  have hn1 := Ss.length h1
  have hn2 := Ss.length h2
  obtain ⟨hb3, hp, hq, hr⟩ := box3 w k1 a1 n1 c1 k2 a2 n2 c2
  have H1 := Lib.hid (SrcV.below h1 hb3)
  have H2 := Lib.hid (SrcV.below h2 hb3)
  have p0 := hp.c0
  have p1 : (bx w k1 a1 n1 c1 k2 a2 n2 c2).cell? ⟨w.heap.size, 1, none⟩ = some (.slice a1 n1 c1) := hp.c1
  have q0 := hq.c0
  have q1 : (bx w k1 a1 n1 c1 k2 a2 n2 c2).cell? ⟨w.heap.size + 1, 1, none⟩ = some (.slice a2 n2 c2) := hq.c1
  obtain ⟨w3, hw3⟩ : ∃ w3, w3 = bx w k1 a1 n1 c1 k2 a2 n2 c2 := ⟨_, rfl⟩
  rw [← hw3] at hb3 hp hq hr H1 H2
  have hsz : w3.heap.size = w.heap.size + 1 + 1 + 1 := by rw [hw3]; simp
  have HSZ := Lib.hid hsz
  have HW := Lib.hid (And.intro (show w3 = ((w.alloc (.cells #[.int .i64 k1, .slice a1 n1 c1] 33)).alloc (.cells #[.int .i64 k2, .slice a2 n2 c2] 33)).alloc (.cells #[.int .i64 0, .slice none 0 0] 33) from hw3) (And.intro hb3 (And.intro hp (And.intro hq hr))))
  have HL := Lib.hid (And.intro hl (And.intro hn1 (And.intro hn2 (And.intro hs1 hs2))))
  have b1 : n1 ≤ 100000 := by omega
  have b2 : n2 ≤ 100000 := by omega
  clear hsz hw3 hb3 hp hq hr h1 h2 hl hn1 hn2 hs1 hs2
  by_cases hk : k1 = 0 ∧ k2 = 0
  · obtain ⟨rfl, rfl⟩ := hk
    by_cases he : lg = [] ∨ lh = []
    · have HA : Hid (jn (0, lg) (0, lh) = (0, lg ++ lh)) := by
        show _ = _
        unfold jn jnl
        rw [if_pos ⟨rfl, rfl⟩, if_pos he]
      rw [HA.out]
      have h0 : n1 = 0 ∨ n2 = 0 := by
        rcases he with e | e
        · left; rw [← HL.out.2.1, e]; rfl
        · right; rw [← HL.out.2.2.1, e]; rfl
      clear he HA
      by_cases hz : n1 = 0
      · have e3 : ((n1 : Int) == 0) = true := by rw [beq_iff_eq]; omega
        clear h0 hz
        go_enter Try.func24, Try.ntmps24
        go_wp2_with fail
        rw [← HW.out.1]
        obtain ⟨w4, hw4⟩ : ∃ w4, w4 = w3.alloc (.cells #[.slice a1 n1 c1, .slice a2 n2 c2] 31) := ⟨_, rfl⟩
        have hb4 : Below w3.heap.size w3 w4 := by rw [hw4]; exact one_below _ _
        have hsrc : SrcV w4 1 (.slice (some ⟨w.heap.size + 1 + 1 + 1, 0, none⟩) 2 2) 2 [.slice a1 n1 c1, .slice a2 n2 c2] := by
          rw [hw4, ← HSZ.out]
          exact SrcV.lit w3 #[.slice a1 n1 c1, .slice a2 n2 c2] 31 2 rfl (by simp [Value.oneCell']) (by simp [maxLen])
        rw [← hw4]
        have hcat := concat_any (some ⟨w.heap.size + 1 + 1 + 1, 0, none⟩) 2 2 [((a1, n1, c1), lg), ((a2, n2, c2), lh)] w4 hsrc (by
          intro x hx
          simp only [List.mem_cons, List.not_mem_nil, or_false] at hx
          rcases hx with rfl | rfl
          · exact SrcV.below H1.out hb4
          · exact SrcV.below H2.out hb4) (by rw [cat_two, List.length_append]; have := HL.out.1; omega)
        rw [cat_two] at hcat
        clear hw4 hsrc p0 p1 q0 q1
        refine hcat.mono ?_
        rintro e w5 ⟨⟨sa, sn, sc⟩, rfl, hown, hb5⟩
        have hbb := below_on hb4 hb5
        have hr5 := HW.out.2.2.2.2.below hbb HW.out.2.2.2.2.lt
        have m0 := hr5.c0
        have m1 : w5.cell? ⟨w.heap.size + 2, 1, none⟩ = some (.slice none 0 0) := hr5.c1
        have z := hr5.z
        have HF := Lib.hid (put_ans (k := 0) (s := (sa, sn, sc)) (Nat.le_add_right _ 2) hB (below_on HW.out.2.1 hbb) hr5 hown (by simpa [World.setCell] using Below.refl _ _))
        simp only [sv]
        clear hcat hown hb4 hb5 hbb hr5
        go_wp2
        exact ret_rg (g := w.heap.size + 2) rfl rfl rfl HF.out.1 ⟨_, rfl, HF.out.2.1, HF.out.2.2⟩
      · have hz' : n2 = 0 := by omega
        have e3 : ((n1 : Int) == 0) = false := by rw [beq_eq_false_iff_ne]; omega
        have e4 : ((n2 : Int) == 0) = true := by rw [beq_iff_eq]; omega
        clear h0 hz hz'
        go_enter Try.func24, Try.ntmps24
        go_wp2_with fail
        rw [← HW.out.1]
        obtain ⟨w4, hw4⟩ : ∃ w4, w4 = w3.alloc (.cells #[.slice a1 n1 c1, .slice a2 n2 c2] 31) := ⟨_, rfl⟩
        have hb4 : Below w3.heap.size w3 w4 := by rw [hw4]; exact one_below _ _
        have hsrc : SrcV w4 1 (.slice (some ⟨w.heap.size + 1 + 1 + 1, 0, none⟩) 2 2) 2 [.slice a1 n1 c1, .slice a2 n2 c2] := by
          rw [hw4, ← HSZ.out]
          exact SrcV.lit w3 #[.slice a1 n1 c1, .slice a2 n2 c2] 31 2 rfl (by simp [Value.oneCell']) (by simp [maxLen])
        rw [← hw4]
        have hcat := concat_any (some ⟨w.heap.size + 1 + 1 + 1, 0, none⟩) 2 2 [((a1, n1, c1), lg), ((a2, n2, c2), lh)] w4 hsrc (by
          intro x hx
          simp only [List.mem_cons, List.not_mem_nil, or_false] at hx
          rcases hx with rfl | rfl
          · exact SrcV.below H1.out hb4
          · exact SrcV.below H2.out hb4) (by rw [cat_two, List.length_append]; have := HL.out.1; omega)
        rw [cat_two] at hcat
        clear hw4 hsrc p0 p1 q0 q1
        refine hcat.mono ?_
        rintro e w5 ⟨⟨sa, sn, sc⟩, rfl, hown, hb5⟩
        have hbb := below_on hb4 hb5
        have hr5 := HW.out.2.2.2.2.below hbb HW.out.2.2.2.2.lt
        have m0 := hr5.c0
        have m1 : w5.cell? ⟨w.heap.size + 2, 1, none⟩ = some (.slice none 0 0) := hr5.c1
        have z := hr5.z
        have HF := Lib.hid (put_ans (k := 0) (s := (sa, sn, sc)) (Nat.le_add_right _ 2) hB (below_on HW.out.2.1 hbb) hr5 hown (by simpa [World.setCell] using Below.refl _ _))
        simp only [sv]
        clear hcat hown hb4 hb5 hbb hr5
        go_wp2
        exact ret_rg (g := w.heap.size + 2) rfl rfl rfl HF.out.1 ⟨_, rfl, HF.out.2.1, HF.out.2.2⟩
    · have hne : lg ≠ [] ∧ lh ≠ [] := ⟨fun e => he (.inl e), fun e => he (.inr e)⟩
      have hn1 : 0 < n1 := by rw [← HL.out.2.1]; exact List.length_pos_iff.2 hne.1
      have hn2 : 0 < n2 := by rw [← HL.out.2.2.1]; exact List.length_pos_iff.2 hne.2
      obtain ⟨JL, hJL⟩ : ∃ JL, JL = lg.take (n1 - 1) ++ ([lg.getD (n1 - 1) ⟨#[]⟩ ++ lh.getD 0 ⟨#[]⟩] ++ lh.drop 1) := ⟨_, rfl⟩
      have HA : Hid (jn (0, lg) (0, lh) = (0, JL)) := by
        show _ = _
        rw [hJL]
        unfold jn jnl
        rw [if_pos ⟨rfl, rfl⟩, if_neg he]
        show ((0 : Int), lg.take (lg.length - 1) ++ (lg.getD (lg.length - 1) ⟨#[]⟩ ++ lh.getD 0 ⟨#[]⟩) :: lh.drop 1) = _
        rw [HL.out.2.1]
        rfl
      rw [HA.out]
      clear he HA hne
      have e3 : ((n1 : Int) == 0) = false := by rw [beq_eq_false_iff_ne]; omega
      have e4 : ((n2 : Int) == 0) = false := by rw [beq_eq_false_iff_ne]; omega
      have hi1 : n1 - 1 < lg.length := by rw [HL.out.2.1]; omega
      have hi2 : 0 < lh.length := by rw [HL.out.2.2.1]; exact hn2
      obtain ⟨ba, oa, rfl, hca, hna, _⟩ := Ss.read H1.out (n1 - 1) hi1
      obtain ⟨bb, ob, rfl, hcb, hnb, _⟩ := Ss.read H2.out 0 hi2
      have hsa := HL.out.2.2.2.1 lg[n1 - 1] (List.getElem_mem hi1)
      have hsb := HL.out.2.2.2.2 lh[0] (List.getElem_mem hi2)
      have hga : lg.getD (n1 - 1) ⟨#[]⟩ = lg[n1 - 1] := by rw [List.getD_eq_getElem?_getD, List.getElem?_eq_getElem hi1]; rfl
      have hgb : lh.getD 0 ⟨#[]⟩ = lh[0] := by rw [List.getD_eq_getElem?_getD, List.getElem?_eq_getElem hi2]; rfl
      rw [hga, hgb] at hJL
      obtain ⟨sa, hqa⟩ : ∃ sa, sa = lg[n1 - 1] := ⟨_, rfl⟩
      obtain ⟨sb, hqb⟩ : ∃ sb, sb = lh[0] := ⟨_, rfl⟩
      rw [← hqa] at hca hsa hJL
      rw [← hqb] at hcb hsb hJL
      have HJL := Lib.hid hJL
      have hle1 := Ss.le63 H1.out
      have hlt2 : (1 : Int) ≤ (n2 : Int) := by omega
      have hcc1 : c1 ≤ 9223372036854775807 := by
        obtain ⟨_, _, _, ⟨ao, he, h0⟩ | ⟨b, o, c', he, h3, h4, _⟩⟩ := H1.out
        · omega
        · injection he with _ _ e3; subst e3; exact h4
      clear hga hgb hqa hqb hi1 hi2 hJL
      have t1 : IntKind.i64.wrap ((n1 : Int) - 1) = ((n1 - 1 : Nat) : Int) := by rw [IntKind.wrap_i64]; omega
      go_enter Try.func24, Try.ntmps24
      go_wp2_with fail
      clear p0 p1 q0 q1
      have p1 : w3.cell? ⟨w.heap.size, 1, none⟩ = some (.slice (some ⟨ba, oa, none⟩) n1 c1) := HW.out.2.2.1.c1
      have q1 : w3.cell? ⟨w.heap.size + 1, 1, none⟩ = some (.slice (some ⟨bb, ob, none⟩) n2 c2) := HW.out.2.2.2.1.c1
      rw [← HW.out.1]
      rw [Nat.add_zero] at hcb
      have e5 : (0 : Int) ≤ ((n1 - 1 : Nat) : Int) := by omega
      have e6 : ((n1 - 1 : Nat) : Int) < (n1 : Int) := by omega
      have e7 : (0 : Int) < (n2 : Int) := by omega
      obtain ⟨N, hN⟩ : ∃ N, N = n1 - 1 := ⟨_, rfl⟩
      rw [← hN] at hca e5 e6
      rw [← hN]
      have HNN := Lib.hid hN
      clear hN t1
      have F_0 := fun (C : World → Prop) (hC : Grows w3 C) (z : In C) => hC.cell p1 z
      have F_1 := fun (C : World → Prop) (hC : Grows w3 C) (z : In C) => hC.cell q1 z
      have F_2 := fun (C : World → Prop) (hC : Grows w3 C) (z : In C) => hC.cell hca z
      have F_3 := fun (C : World → Prop) (hC : Grows w3 C) (z : In C) => hC.cell hcb z
      refine wp_region_seg [0, 1, 2, 3, 4, 5, 6, 7, 8, 9, 10] [] (by kernel_rfl) (by kernel_rfl) 65 rfl (by kernel_rfl) ?_
      simp only [List.map_cons, List.map_nil, opOf_succ, opOf_zero]
      apply Exists.intro
      refine ⟨fun C hC => ?_, ?_⟩
      · haveI hI := hC.one
        have f_0 := F_0 C hC
        have f_1 := F_1 C hC
        have f_2 := F_2 C hC
        have f_3 := F_3 C hC
        repeat (go_big_quiet_step (fail))
        exact wpQuiet_nil rfl
      clear F_0 F_1 F_2 F_3
      refine wpPath_end fun w4 hb4 => ?_
      have hsz4 : w3.heap.size ≤ w4.heap.size := hb4.size
      have p1 := cell_later hb4 p1
      have q1 := cell_later hb4 q1
      have htk := SrcV.take (k := n1 - 1) H1.out (by omega)
      obtain ⟨AD, hAD, hdr⟩ := SrcV.drop (k := 1) H2.out hn2
      rw [← List.map_take] at htk
      rw [← List.map_drop] at hdr
      rw [← HNN.out] at htk
      have htk := SrcV.below htk hb4
      have hdr := SrcV.below hdr hb4
      have hr4 := HW.out.2.2.2.2.below hb4 HW.out.2.2.2.2.lt
      have HR4 := Lib.hid (And.intro hr4 (And.intro htk (And.intro hdr hb4)))
      clear hr4 htk hdr hb4 hca hcb
      have e8 : ((N : Int)) ≤ (c1 : Int) := by omega
      go_wp2_with fail
      have F_0 := fun (C : World → Prop) (hC : Grows w4 C) (z : In C) => hC.cell p1 z
      have F_1 := fun (C : World → Prop) (hC : Grows w4 C) (z : In C) => hC.cell q1 z
      refine wp_region_seg [0, 1, 2, 4, 6, 7] [(3, 2), (8, 2), (5, 1), (9, 1), (10, 1), (11, 2), (12, 3)] (by kernel_rfl) (by kernel_rfl) 65 rfl (by kernel_rfl) ?_
      simp only [List.map_cons, List.map_nil, opOf_succ, opOf_zero]
      apply Exists.intro
      refine ⟨fun C hC => ?_, ?_⟩
      · haveI hI := hC.one
        have f_0 := F_0 C hC
        have f_1 := F_1 C hC
        repeat (go_big_quiet_step (fail))
        exact wpQuiet_nil rfl
      clear F_0 F_1
      refine wpPath_free (v := .slice (some ⟨ba, oa, none⟩) N c1) rfl rfl (fun W => by simp only [opOf_succ, opOf_zero]; go_simp) ?_
      simp only [opOf_succ, opOf_zero, Act.put, List.setIfInBounds_toArray, List.set_cons_zero, List.set_cons_succ]
      refine wpPath_free (v := .slice (some AD) (n2 - 1) (c2 - 1)) rfl rfl (fun W => by simp only [opOf_succ, opOf_zero]; go_simp) ?_
      simp only [opOf_succ, opOf_zero, Act.put, List.setIfInBounds_toArray, List.set_cons_zero, List.set_cons_succ]
      refine wpPath_make rfl fun u0 hu0 => ⟨.slice (some ⟨u0.heap.size, 0, none⟩) 1 1, u0.alloc (.cells #[.string (sa ++ sb)] ES), rfl, by simp only [opOf_succ, opOf_zero]; go_simp, one_below _ _, ?_⟩
      simp only [opOf_succ, opOf_zero, Act.put, List.setIfInBounds_toArray, List.set_cons_zero, List.set_cons_succ]
      have hs1 : Ss (u0.alloc (.cells #[.string (sa ++ sb)] ES)) (some ⟨u0.heap.size, 0, none⟩) 1 1 [sa ++ sb] := SrcV.lit u0 #[.string (sa ++ sb)] ES 1 rfl (by simp [Value.oneCell']) (by simp [maxLen])
      obtain ⟨u1, hu1⟩ : ∃ u1, u1 = u0.alloc (.cells #[.string (sa ++ sb)] ES) := ⟨_, rfl⟩
      have hb1 : Below w4.heap.size w4 u1 := by rw [hu1]; exact below_on hu0 (one_below _ _)
      obtain ⟨g1, hg1⟩ : ∃ g1, g1 = u0.heap.size := ⟨_, rfl⟩
      rw [← hu1, ← hg1] at hs1
      rw [← hu1, ← hg1]
      clear hu1 hg1 hu0
      refine wpPath_make rfl fun u2 hu2 => ⟨.slice (some ⟨u2.heap.size, 0, none⟩) 3 3, u2.alloc (.cells #[.slice (some ⟨ba, oa, none⟩) N c1, .slice (some ⟨g1, 0, none⟩) 1 1, .slice (some AD) (n2 - 1) (c2 - 1)] 31), rfl, by simp only [opOf_succ, opOf_zero]; go_simp, one_below _ _, ?_⟩
      simp only [opOf_succ, opOf_zero, Act.put, List.setIfInBounds_toArray, List.set_cons_zero, List.set_cons_succ]
      have hsrc : SrcV (u2.alloc (.cells #[.slice (some ⟨ba, oa, none⟩) N c1, .slice (some ⟨g1, 0, none⟩) 1 1, .slice (some AD) (n2 - 1) (c2 - 1)] 31)) 1 (.slice (some ⟨u2.heap.size, 0, none⟩) 3 3) 3 [.slice (some ⟨ba, oa, none⟩) N c1, .slice (some ⟨g1, 0, none⟩) 1 1, .slice (some AD) (n2 - 1) (c2 - 1)] :=
        SrcV.lit u2 #[.slice (some ⟨ba, oa, none⟩) N c1, .slice (some ⟨g1, 0, none⟩) 1 1, .slice (some AD) (n2 - 1) (c2 - 1)] 31 3 rfl (by simp [Value.oneCell']) (by simp [maxLen])
      obtain ⟨u3, hu3⟩ : ∃ u3, u3 = u2.alloc (.cells #[.slice (some ⟨ba, oa, none⟩) N c1, .slice (some ⟨g1, 0, none⟩) 1 1, .slice (some AD) (n2 - 1) (c2 - 1)] 31) := ⟨_, rfl⟩
      have hb2 : Below u2.heap.size u2 u3 := by rw [hu3]; exact one_below _ _
      obtain ⟨g3, hg3⟩ : ∃ g3, g3 = u2.heap.size := ⟨_, rfl⟩
      rw [← hu3, ← hg3] at hsrc
      rw [← hu3, ← hg3]
      clear hu3 hg3
      refine wpPath_call (f := 34) (args := #[.slice (some ⟨g3, 0, none⟩) 3 3]) rfl rfl (fun W => by simp only [opOf_succ, opOf_zero]; go_simp) ?_
      intro A1 hA1
      have hbA := below_on hb1 (below_on hu2 (below_on hb2 hA1))
      have hcat := concat_any (some ⟨g3, 0, none⟩) 3 3 [((some ⟨ba, oa, none⟩, N, c1), lg.take N), ((some ⟨g1, 0, none⟩, 1, 1), [sa ++ sb]), ((some AD, n2 - 1, c2 - 1), lh.drop 1)] A1 (SrcV.below hsrc hA1) (by
        intro x hx
        simp only [List.mem_cons, List.not_mem_nil, or_false] at hx
        rcases hx with rfl | rfl | rfl
        · exact SrcV.below HR4.out.2.1 hbA
        · exact SrcV.below hs1 (below_on hu2 (below_on hb2 hA1))
        · exact SrcV.below HR4.out.2.2.1 hbA) (by rw [cat_three]; simp only [List.length_append, List.length_take, List.length_drop, List.length_cons, List.length_nil]; have := HL.out.1; omega)
      rw [cat_three] at hcat
      refine hcat.mono ?_
      rintro e A2 ⟨⟨ra, rn, rc⟩, rfl, hown, hA2⟩
      refine ⟨_, rfl, hA2, ?_⟩
      simp only [opOf_succ, opOf_zero, Act.put, List.setIfInBounds_toArray, List.set_cons_zero, List.set_cons_succ]
      clear hcat hsrc hs1
      refine wpPath_free (v := .agg #[.int .i64 0, .slice ra rn rc]) rfl rfl (fun W => by simp only [opOf_succ, opOf_zero]; go_simp; rfl) ?_
      simp only [opOf_succ, opOf_zero, Act.put, List.setIfInBounds_toArray, List.set_cons_zero, List.set_cons_succ]
      refine wpPath_store rfl fun A3 hA3 => ?_
      have hbb := below_on hbA (below_on hA2 hA3)
      have hr5 := HR4.out.1.below hbb HR4.out.1.lt
      have m0 := hr5.c0
      have m1 : A3.cell? ⟨w.heap.size + 2, 1, none⟩ = some (.slice none 0 0) := hr5.c1
      have z := hr5.z
      refine ⟨(A3.setCell ⟨w.heap.size + 2, 0, none⟩ (.int .i64 0)).setCell ⟨w.heap.size + 2, 1, none⟩ (.slice ra rn rc), rfl, by simp only [opOf_succ, opOf_zero]; go_simp, ?_⟩
      simp only [opOf_succ, opOf_zero, Act.put, List.setIfInBounds_toArray, List.set_cons_zero, List.set_cons_succ]
      refine wpPath_end fun A4 hA4 => ?_
      have HF := Lib.hid (put_ans (k := 0) (s := (ra, rn, rc)) (Nat.le_add_right _ 2) hB (below_on HW.out.2.1 (below_on HR4.out.2.2.2 hbb)) hr5 (ownsRow_fr hown (Fr.ofBelow hA3 (fun _ => False)) (fun _ _ h => h)) (hA4.mono (by simp [World.setCell])))
      clear hA4 hr5 hbb hown hA3 hA2 hA1 hbA m0 m1 z p1 q1
      rw [HNN.out, ← HJL.out] at HF
      go_wp2
      exact ret_rg (g := w.heap.size + 2) rfl rfl rfl HF.out.1 ⟨_, rfl, HF.out.2.1, HF.out.2.2⟩
  · have HA : Hid (jn (k1, lg) (k2, lh) = (1, lg ++ lh)) := by
      show _ = _
      unfold jn
      rw [if_neg hk]
    rw [HA.out]
    clear HA
    by_cases hk1 : k1 = 0
    · subst hk1
      have e2 : (k2 == 0) = false := by rw [beq_eq_false_iff_ne]; exact fun e => hk ⟨rfl, e⟩
      clear hk
      go_enter Try.func24, Try.ntmps24
      go_wp2_with fail
      rw [← HW.out.1]
      obtain ⟨w4, hw4⟩ : ∃ w4, w4 = w3.alloc (.cells #[.slice a1 n1 c1, .slice a2 n2 c2] 31) := ⟨_, rfl⟩
      have hb4 : Below w3.heap.size w3 w4 := by rw [hw4]; exact one_below _ _
      have hsrc : SrcV w4 1 (.slice (some ⟨w.heap.size + 1 + 1 + 1, 0, none⟩) 2 2) 2 [.slice a1 n1 c1, .slice a2 n2 c2] := by
        rw [hw4, ← HSZ.out]
        exact SrcV.lit w3 #[.slice a1 n1 c1, .slice a2 n2 c2] 31 2 rfl (by simp [Value.oneCell']) (by simp [maxLen])
      rw [← hw4]
      have hcat := concat_any (some ⟨w.heap.size + 1 + 1 + 1, 0, none⟩) 2 2 [((a1, n1, c1), lg), ((a2, n2, c2), lh)] w4 hsrc (by
        intro x hx
        simp only [List.mem_cons, List.not_mem_nil, or_false] at hx
        rcases hx with rfl | rfl
        · exact SrcV.below H1.out hb4
        · exact SrcV.below H2.out hb4) (by rw [cat_two, List.length_append]; have := HL.out.1; omega)
      rw [cat_two] at hcat
      clear hw4 hsrc p0 p1 q0 q1
      refine hcat.mono ?_
      rintro e w5 ⟨⟨sa, sn, sc⟩, rfl, hown, hb5⟩
      have hbb := below_on hb4 hb5
      have hr5 := HW.out.2.2.2.2.below hbb HW.out.2.2.2.2.lt
      have m0 := hr5.c0
      have m1 : w5.cell? ⟨w.heap.size + 2, 1, none⟩ = some (.slice none 0 0) := hr5.c1
      have z := hr5.z
      have HF := Lib.hid (put_ans (k := 1) (s := (sa, sn, sc)) (Nat.le_add_right _ 2) hB (below_on HW.out.2.1 hbb) hr5 hown (by simpa [World.setCell] using Below.refl _ _))
      simp only [sv]
      clear hcat hown hb4 hb5 hbb hr5
      go_wp2
      exact ret_rg (g := w.heap.size + 2) rfl rfl rfl HF.out.1 ⟨_, rfl, HF.out.2.1, HF.out.2.2⟩
    · have e1 : (k1 == 0) = false := by rw [beq_eq_false_iff_ne]; exact hk1
      clear hk hk1
      go_enter Try.func24, Try.ntmps24
      go_wp2_with fail
      rw [← HW.out.1]
      obtain ⟨w4, hw4⟩ : ∃ w4, w4 = w3.alloc (.cells #[.slice a1 n1 c1, .slice a2 n2 c2] 31) := ⟨_, rfl⟩
      have hb4 : Below w3.heap.size w3 w4 := by rw [hw4]; exact one_below _ _
      have hsrc : SrcV w4 1 (.slice (some ⟨w.heap.size + 1 + 1 + 1, 0, none⟩) 2 2) 2 [.slice a1 n1 c1, .slice a2 n2 c2] := by
        rw [hw4, ← HSZ.out]
        exact SrcV.lit w3 #[.slice a1 n1 c1, .slice a2 n2 c2] 31 2 rfl (by simp [Value.oneCell']) (by simp [maxLen])
      rw [← hw4]
      have hcat := concat_any (some ⟨w.heap.size + 1 + 1 + 1, 0, none⟩) 2 2 [((a1, n1, c1), lg), ((a2, n2, c2), lh)] w4 hsrc (by
        intro x hx
        simp only [List.mem_cons, List.not_mem_nil, or_false] at hx
        rcases hx with rfl | rfl
        · exact SrcV.below H1.out hb4
        · exact SrcV.below H2.out hb4) (by rw [cat_two, List.length_append]; have := HL.out.1; omega)
      rw [cat_two] at hcat
      clear hw4 hsrc p0 p1 q0 q1
      refine hcat.mono ?_
      rintro e w5 ⟨⟨sa, sn, sc⟩, rfl, hown, hb5⟩
      have hbb := below_on hb4 hb5
      have hr5 := HW.out.2.2.2.2.below hbb HW.out.2.2.2.2.lt
      have m0 := hr5.c0
      have m1 : w5.cell? ⟨w.heap.size + 2, 1, none⟩ = some (.slice none 0 0) := hr5.c1
      have z := hr5.z
      have HF := Lib.hid (put_ans (k := 1) (s := (sa, sn, sc)) (Nat.le_add_right _ 2) hB (below_on HW.out.2.1 hbb) hr5 hown (by simpa [World.setCell] using Below.refl _ _))
      simp only [sv]
      clear hcat hown hb4 hb5 hbb hr5
      go_wp2
      exact ret_rg (g := w.heap.size + 2) rfl rfl rfl HF.out.1 ⟨_, rfl, HF.out.2.1, HF.out.2.2⟩

set_option maxHeartbeats 4000000 in
theorem join19_any (k1 : Int) (a1 : Option Addr) (n1 c1 : Nat) (g : G) (k2 : Int) (a2 : Option Addr) (n2 c2 : Nat) (h : G) (w : World) (B : Nat) (hg : El w B (k1, a1, n1, c1) g) (hh : El w B (k2, a2, n2, c2) h) (hl : g.2.length + h.2.length ≤ 100000)
    (hs1 : ∀ s ∈ g.2, s.size ≤ 140737488355328) (hs2 : ∀ s ∈ h.2, s.size ≤ 140737488355328) (hB : B ≤ w.heap.size) : Calls Try.prog 25 #[.agg #[.int .i64 k1, .slice a1 n1 c1], .agg #[.int .i64 k2, .slice a2 n2 c2]] w fun e w' => RgOut w B (jn g h) e w' := by
  obtain ⟨i0, hi0, hz0, hz1, hz2⟩ := info_parts infoS
  obtain ⟨kg, lg⟩ := g
  obtain ⟨kh, lh⟩ := h
  obtain ⟨rfl, h1, _⟩ := hg
  obtain ⟨rfl, h2, _⟩ := hh
  simp only at h1 h2 hl hs1 hs2
  have hn1 := Ss.length h1
  have hn2 := Ss.length h2
  obtain ⟨hb3, hp, hq, hr⟩ := box3 w k1 a1 n1 c1 k2 a2 n2 c2
  have H1 := Lib.hid (SrcV.below h1 hb3)
  have H2 := Lib.hid (SrcV.below h2 hb3)
  have p0 := hp.c0
  have p1 : (bx w k1 a1 n1 c1 k2 a2 n2 c2).cell? ⟨w.heap.size, 1, none⟩ = some (.slice a1 n1 c1) := hp.c1
  have q0 := hq.c0
  have q1 : (bx w k1 a1 n1 c1 k2 a2 n2 c2).cell? ⟨w.heap.size + 1, 1, none⟩ = some (.slice a2 n2 c2) := hq.c1
  obtain ⟨w3, hw3⟩ : ∃ w3, w3 = bx w k1 a1 n1 c1 k2 a2 n2 c2 := ⟨_, rfl⟩
  rw [← hw3] at hb3 hp hq hr H1 H2
  have hsz : w3.heap.size = w.heap.size + 1 + 1 + 1 := by rw [hw3]; simp
  have HSZ := Lib.hid hsz
  have HW := Lib.hid (And.intro (show w3 = ((w.alloc (.cells #[.int .i64 k1, .slice a1 n1 c1] 33)).alloc (.cells #[.int .i64 k2, .slice a2 n2 c2] 33)).alloc (.cells #[.int .i64 0, .slice none 0 0] 33) from hw3) (And.intro hb3 (And.intro hp (And.intro hq hr))))
  have HL := Lib.hid (And.intro hl (And.intro hn1 (And.intro hn2 (And.intro hs1 hs2))))
  have b1 : n1 ≤ 100000 := by omega
  have b2 : n2 ≤ 100000 := by omega
  clear hsz hw3 hb3 hp hq hr h1 h2 hl hn1 hn2 hs1 hs2
  by_cases hk : k1 = 0 ∧ k2 = 0
  · obtain ⟨rfl, rfl⟩ := hk
    by_cases he : lg = [] ∨ lh = []
    · have HA : Hid (jn (0, lg) (0, lh) = (0, lg ++ lh)) := by
        show _ = _
        unfold jn jnl
        rw [if_pos ⟨rfl, rfl⟩, if_pos he]
      rw [HA.out]
      have h0 : n1 = 0 ∨ n2 = 0 := by
        rcases he with e | e
        · left; rw [← HL.out.2.1, e]; rfl
        · right; rw [← HL.out.2.2.1, e]; rfl
      clear he HA
      by_cases hz : n1 = 0
      · have e3 : ((n1 : Int) == 0) = true := by rw [beq_iff_eq]; omega
        clear h0 hz
        go_enter Try.func25, Try.ntmps25
        go_wp2_with fail
        clear p0 p1 q0 q1
        rw [← HW.out.1]
        have p1 : w3.cell? ⟨w.heap.size, 1, none⟩ = some (.slice a1 n1 c1) := HW.out.2.2.1.c1
        have q1 : w3.cell? ⟨w.heap.size + 1, 1, none⟩ = some (.slice a2 n2 c2) := HW.out.2.2.2.1.c1
        have F_0 := fun (C : World → Prop) (hC : Vs.Grows (fun j => w3.heap.size ≤ j) w3 C) (z : Vs.In C) => hC.cell p1 (by have := HSZ.out; simp only; omega) z
        have F_1 := fun (C : World → Prop) (hC : Vs.Grows (fun j => w3.heap.size ≤ j) w3 C) (z : Vs.In C) => hC.cell q1 (by have := HSZ.out; simp only; omega) z
        refine Vs.wp_region_seg (S := fun j => w3.heap.size ≤ j) [0, 1, 3, 4] [(2, 1), (5, 1), (6, 2), (7, 3)] (by kernel_rfl) (by kernel_rfl) 66 rfl (by kernel_rfl) ?_
        simp only [List.map_cons, List.map_nil, Vs.opOf_succ, Vs.opOf_zero]
        apply Exists.intro
        refine ⟨fun C hC => ?_, ?_⟩
        · haveI hI := hC.one
          have f_0 := F_0 C hC
          have f_1 := F_1 C hC
          repeat (go_big_quiet_step (fail))
          exact wpQuiet_nil rfl
        clear F_0 F_1
        clear p1 q1
        refine Vs.wpPath_make rfl fun u0 hu0 => ?_
        obtain ⟨d1, e1', u1, hr1, own1, hg1, _⟩ := run_append_srcv (P := Try.prog) u0 31 31 w3.heap.size ES i0 (.string ⟨#[]⟩) 1 16 underS hi0 hz0 hz1 hz2 rfl (by decide) (.slice none 0 0) 0 [] (World.ownsRow_nil _ _ _ _) _ n1 _ (SrcV.below H1.out hu0) (by simp only [maxLen]; omega) (by omega) hu0.size
        refine ⟨_, u1, rfl, by simp only [Vs.opOf_succ, Vs.opOf_zero]; exact exec_append rfl rfl rfl hr1, (Fr.refl _ u0).grown hg1 (fun k hk => by cases hk), ?_⟩
        simp only [Vs.opOf_succ, Vs.opOf_zero, Act.put, List.setIfInBounds_toArray, List.set_cons_zero, List.set_cons_succ]
        have FX : Fr (fun j => w3.heap.size ≤ j) w3 u1 := (Fr.ofBelow hu0 _).grown hg1 (fun k hk => by cases hk)
        have hlt1 : ∀ k, 0 < n2 → blk (.slice a2 n2 c2) = some k → k < w3.heap.size := fun k h0 hk => SrcV.blkLt H2.out (by omega) k hk
        clear hr1 hg1 hu0
        refine Vs.wpPath_make rfl fun u2 hu2 => ?_
        have FX := FX.trans (Fr.ofBelow hu2 _)
        have own1 := ownsRow_fr own1 (Fr.ofBelow hu2 (fun _ => False)) (fun _ _ h => h)
        obtain ⟨ra, rc, u3, hr3, own3, hg3, _⟩ := run_append_srcv (P := Try.prog) u2 31 31 w3.heap.size ES i0 (.string ⟨#[]⟩) 1 16 underS hi0 hz0 hz1 hz2 rfl (by decide) (.slice d1 (0 + n1) e1') (0 + n1) _ own1 _ n2 _ (SrcV.fr H2.out FX (fun h0 k hk hS => by have := hlt1 k h0 hk; omega)) (by simp only [maxLen]; omega) (by omega) FX.size
        refine ⟨_, u3, rfl, by simp only [Vs.opOf_succ, Vs.opOf_zero]; exact exec_append rfl rfl rfl hr3, (Fr.refl _ u2).grown hg3 (fun k hk _ => (own1.lt k hk).1), ?_⟩
        simp only [Vs.opOf_succ, Vs.opOf_zero, Act.put, List.setIfInBounds_toArray, List.set_cons_zero, List.set_cons_succ]
        have FX := FX.grown hg3 (fun k hk _ => (own1.lt k hk).1)
        rw [List.nil_append, ← List.map_append] at own3
        clear hr3 hg3 own1 hu2 hlt1
        obtain ⟨rn, hrn⟩ : ∃ rn, rn = 0 + n1 + n2 := ⟨_, rfl⟩
        rw [← hrn] at own3
        rw [← hrn]
        clear hrn
        refine Vs.wpPath_free (v := .agg #[.int .i64 0, .slice ra rn rc]) rfl rfl (fun W => by simp only [Vs.opOf_succ, Vs.opOf_zero]; go_simp) ?_
        simp only [Vs.opOf_succ, Vs.opOf_zero, Act.put, List.setIfInBounds_toArray, List.set_cons_zero, List.set_cons_succ]
        refine Vs.wpPath_store rfl fun A3 hA3 => ?_
        have FX := FX.trans (Fr.ofBelow hA3 _)
        have hr5 := HW.out.2.2.2.2.fr FX (by have := HSZ.out; omega)
        have hown := ownsRow_fr own3 (Fr.ofBelow hA3 (fun _ => False)) (fun _ _ h => h)
        have hbX := HW.out.2.1.trans (FX.below HW.out.2.1.size (fun k hk => Nat.le_trans HW.out.2.1.size hk))
        have m0 := hr5.c0
        have m1 : A3.cell? ⟨w.heap.size + 2, 1, none⟩ = some (.slice none 0 0) := hr5.c1
        have z := hr5.z
        refine ⟨(A3.setCell ⟨w.heap.size + 2, 0, none⟩ (.int .i64 0)).setCell ⟨w.heap.size + 2, 1, none⟩ (.slice ra rn rc), rfl, by simp only [Vs.opOf_succ, Vs.opOf_zero]; go_simp, ?_⟩
        simp only [Vs.opOf_succ, Vs.opOf_zero, Act.put, List.setIfInBounds_toArray, List.set_cons_zero, List.set_cons_succ]
        refine Vs.wpPath_end fun A4 hA4 => ?_
        have HF := Lib.hid (put_ans (k := 0) (s := (ra, rn, rc)) (Nat.le_add_right _ 2) hB hbX hr5 hown (hA4.mono (by simp [World.setCell])))
        clear hA4 hr5 hown hA3 FX hbX m0 m1 z
        go_wp2
        exact ret_rg (g := w.heap.size + 2) rfl rfl rfl HF.out.1 ⟨_, rfl, HF.out.2.1, HF.out.2.2⟩
      · have hz' : n2 = 0 := by omega
        have e3 : ((n1 : Int) == 0) = false := by rw [beq_eq_false_iff_ne]; omega
        have e4 : ((n2 : Int) == 0) = true := by rw [beq_iff_eq]; omega
        clear h0 hz hz'
        go_enter Try.func25, Try.ntmps25
        go_wp2_with fail
        clear p0 p1 q0 q1
        rw [← HW.out.1]
        have p1 : w3.cell? ⟨w.heap.size, 1, none⟩ = some (.slice a1 n1 c1) := HW.out.2.2.1.c1
        have q1 : w3.cell? ⟨w.heap.size + 1, 1, none⟩ = some (.slice a2 n2 c2) := HW.out.2.2.2.1.c1
        have F_0 := fun (C : World → Prop) (hC : Vs.Grows (fun j => w3.heap.size ≤ j) w3 C) (z : Vs.In C) => hC.cell p1 (by have := HSZ.out; simp only; omega) z
        have F_1 := fun (C : World → Prop) (hC : Vs.Grows (fun j => w3.heap.size ≤ j) w3 C) (z : Vs.In C) => hC.cell q1 (by have := HSZ.out; simp only; omega) z
        refine Vs.wp_region_seg (S := fun j => w3.heap.size ≤ j) [0, 1, 3, 4] [(2, 1), (5, 1), (6, 2), (7, 3)] (by kernel_rfl) (by kernel_rfl) 66 rfl (by kernel_rfl) ?_
        simp only [List.map_cons, List.map_nil, Vs.opOf_succ, Vs.opOf_zero]
        apply Exists.intro
        refine ⟨fun C hC => ?_, ?_⟩
        · haveI hI := hC.one
          have f_0 := F_0 C hC
          have f_1 := F_1 C hC
          repeat (go_big_quiet_step (fail))
          exact wpQuiet_nil rfl
        clear F_0 F_1
        clear p1 q1
        refine Vs.wpPath_make rfl fun u0 hu0 => ?_
        obtain ⟨d1, e1', u1, hr1, own1, hg1, _⟩ := run_append_srcv (P := Try.prog) u0 31 31 w3.heap.size ES i0 (.string ⟨#[]⟩) 1 16 underS hi0 hz0 hz1 hz2 rfl (by decide) (.slice none 0 0) 0 [] (World.ownsRow_nil _ _ _ _) _ n1 _ (SrcV.below H1.out hu0) (by simp only [maxLen]; omega) (by omega) hu0.size
        refine ⟨_, u1, rfl, by simp only [Vs.opOf_succ, Vs.opOf_zero]; exact exec_append rfl rfl rfl hr1, (Fr.refl _ u0).grown hg1 (fun k hk => by cases hk), ?_⟩
        simp only [Vs.opOf_succ, Vs.opOf_zero, Act.put, List.setIfInBounds_toArray, List.set_cons_zero, List.set_cons_succ]
        have FX : Fr (fun j => w3.heap.size ≤ j) w3 u1 := (Fr.ofBelow hu0 _).grown hg1 (fun k hk => by cases hk)
        have hlt1 : ∀ k, 0 < n2 → blk (.slice a2 n2 c2) = some k → k < w3.heap.size := fun k h0 hk => SrcV.blkLt H2.out (by omega) k hk
        clear hr1 hg1 hu0
        refine Vs.wpPath_make rfl fun u2 hu2 => ?_
        have FX := FX.trans (Fr.ofBelow hu2 _)
        have own1 := ownsRow_fr own1 (Fr.ofBelow hu2 (fun _ => False)) (fun _ _ h => h)
        obtain ⟨ra, rc, u3, hr3, own3, hg3, _⟩ := run_append_srcv (P := Try.prog) u2 31 31 w3.heap.size ES i0 (.string ⟨#[]⟩) 1 16 underS hi0 hz0 hz1 hz2 rfl (by decide) (.slice d1 (0 + n1) e1') (0 + n1) _ own1 _ n2 _ (SrcV.fr H2.out FX (fun h0 k hk hS => by have := hlt1 k h0 hk; omega)) (by simp only [maxLen]; omega) (by omega) FX.size
        refine ⟨_, u3, rfl, by simp only [Vs.opOf_succ, Vs.opOf_zero]; exact exec_append rfl rfl rfl hr3, (Fr.refl _ u2).grown hg3 (fun k hk _ => (own1.lt k hk).1), ?_⟩
        simp only [Vs.opOf_succ, Vs.opOf_zero, Act.put, List.setIfInBounds_toArray, List.set_cons_zero, List.set_cons_succ]
        have FX := FX.grown hg3 (fun k hk _ => (own1.lt k hk).1)
        rw [List.nil_append, ← List.map_append] at own3
        clear hr3 hg3 own1 hu2 hlt1
        obtain ⟨rn, hrn⟩ : ∃ rn, rn = 0 + n1 + n2 := ⟨_, rfl⟩
        rw [← hrn] at own3
        rw [← hrn]
        clear hrn
        refine Vs.wpPath_free (v := .agg #[.int .i64 0, .slice ra rn rc]) rfl rfl (fun W => by simp only [Vs.opOf_succ, Vs.opOf_zero]; go_simp) ?_
        simp only [Vs.opOf_succ, Vs.opOf_zero, Act.put, List.setIfInBounds_toArray, List.set_cons_zero, List.set_cons_succ]
        refine Vs.wpPath_store rfl fun A3 hA3 => ?_
        have FX := FX.trans (Fr.ofBelow hA3 _)
        have hr5 := HW.out.2.2.2.2.fr FX (by have := HSZ.out; omega)
        have hown := ownsRow_fr own3 (Fr.ofBelow hA3 (fun _ => False)) (fun _ _ h => h)
        have hbX := HW.out.2.1.trans (FX.below HW.out.2.1.size (fun k hk => Nat.le_trans HW.out.2.1.size hk))
        have m0 := hr5.c0
        have m1 : A3.cell? ⟨w.heap.size + 2, 1, none⟩ = some (.slice none 0 0) := hr5.c1
        have z := hr5.z
        refine ⟨(A3.setCell ⟨w.heap.size + 2, 0, none⟩ (.int .i64 0)).setCell ⟨w.heap.size + 2, 1, none⟩ (.slice ra rn rc), rfl, by simp only [Vs.opOf_succ, Vs.opOf_zero]; go_simp, ?_⟩
        simp only [Vs.opOf_succ, Vs.opOf_zero, Act.put, List.setIfInBounds_toArray, List.set_cons_zero, List.set_cons_succ]
        refine Vs.wpPath_end fun A4 hA4 => ?_
        have HF := Lib.hid (put_ans (k := 0) (s := (ra, rn, rc)) (Nat.le_add_right _ 2) hB hbX hr5 hown (hA4.mono (by simp [World.setCell])))
        clear hA4 hr5 hown hA3 FX hbX m0 m1 z
        go_wp2
        exact ret_rg (g := w.heap.size + 2) rfl rfl rfl HF.out.1 ⟨_, rfl, HF.out.2.1, HF.out.2.2⟩
    · have hne : lg ≠ [] ∧ lh ≠ [] := ⟨fun e => he (.inl e), fun e => he (.inr e)⟩
      have hn1 : 0 < n1 := by rw [← HL.out.2.1]; exact List.length_pos_iff.2 hne.1
      have hn2 : 0 < n2 := by rw [← HL.out.2.2.1]; exact List.length_pos_iff.2 hne.2
      obtain ⟨JL, hJL⟩ : ∃ JL, JL = lg.take (n1 - 1) ++ ([lg.getD (n1 - 1) ⟨#[]⟩ ++ lh.getD 0 ⟨#[]⟩] ++ lh.drop 1) := ⟨_, rfl⟩
      have HA : Hid (jn (0, lg) (0, lh) = (0, JL)) := by
        show _ = _
        rw [hJL]
        unfold jn jnl
        rw [if_pos ⟨rfl, rfl⟩, if_neg he]
        show ((0 : Int), lg.take (lg.length - 1) ++ (lg.getD (lg.length - 1) ⟨#[]⟩ ++ lh.getD 0 ⟨#[]⟩) :: lh.drop 1) = _
        rw [HL.out.2.1]
        rfl
      rw [HA.out]
      clear he HA hne
      have e3 : ((n1 : Int) == 0) = false := by rw [beq_eq_false_iff_ne]; omega
      have e4 : ((n2 : Int) == 0) = false := by rw [beq_eq_false_iff_ne]; omega
      have hi1 : n1 - 1 < lg.length := by rw [HL.out.2.1]; omega
      have hi2 : 0 < lh.length := by rw [HL.out.2.2.1]; exact hn2
      obtain ⟨ba, oa, rfl, hca, hna, _⟩ := Ss.read H1.out (n1 - 1) hi1
      obtain ⟨bb, ob, rfl, hcb, hnb, _⟩ := Ss.read H2.out 0 hi2
      have hsa := HL.out.2.2.2.1 lg[n1 - 1] (List.getElem_mem hi1)
      have hsb := HL.out.2.2.2.2 lh[0] (List.getElem_mem hi2)
      have hga : lg.getD (n1 - 1) ⟨#[]⟩ = lg[n1 - 1] := by rw [List.getD_eq_getElem?_getD, List.getElem?_eq_getElem hi1]; rfl
      have hgb : lh.getD 0 ⟨#[]⟩ = lh[0] := by rw [List.getD_eq_getElem?_getD, List.getElem?_eq_getElem hi2]; rfl
      rw [hga, hgb] at hJL
      obtain ⟨sa, hqa⟩ : ∃ sa, sa = lg[n1 - 1] := ⟨_, rfl⟩
      obtain ⟨sb, hqb⟩ : ∃ sb, sb = lh[0] := ⟨_, rfl⟩
      rw [← hqa] at hca hsa hJL
      rw [← hqb] at hcb hsb hJL
      have HJL := Lib.hid hJL
      have hle1 := Ss.le63 H1.out
      have hlt2 : (1 : Int) ≤ (n2 : Int) := by omega
      have hcc1 : c1 ≤ 9223372036854775807 := by
        obtain ⟨_, _, _, ⟨ao, he, h0⟩ | ⟨b, o, c', he, h3, h4, _⟩⟩ := H1.out
        · omega
        · injection he with _ _ e3; subst e3; exact h4
      clear hga hgb hqa hqb hi1 hi2 hJL
      have t1 : IntKind.i64.wrap ((n1 : Int) - 1) = ((n1 - 1 : Nat) : Int) := by rw [IntKind.wrap_i64]; omega
      go_enter Try.func25, Try.ntmps25
      go_wp2_with fail
      clear p0 p1 q0 q1
      rw [← HW.out.1]
      have p1 : w3.cell? ⟨w.heap.size, 1, none⟩ = some (.slice (some ⟨ba, oa, none⟩) n1 c1) := HW.out.2.2.1.c1
      have q1 : w3.cell? ⟨w.heap.size + 1, 1, none⟩ = some (.slice (some ⟨bb, ob, none⟩) n2 c2) := HW.out.2.2.2.1.c1
      rw [Nat.add_zero] at hcb
      have e5 : (0 : Int) ≤ ((n1 - 1 : Nat) : Int) := by omega
      have e6 : ((n1 - 1 : Nat) : Int) < (n1 : Int) := by omega
      have e7 : (0 : Int) < (n2 : Int) := by omega
      have htk := SrcV.take (k := n1 - 1) H1.out (by omega)
      obtain ⟨AD, hAD, hdr⟩ := SrcV.drop (k := 1) H2.out hn2
      rw [← List.map_take] at htk
      rw [← List.map_drop] at hdr
      obtain ⟨N, hN⟩ : ∃ N, N = n1 - 1 := ⟨_, rfl⟩
      rw [← hN] at hca e5 e6 htk
      rw [← hN]
      have HNN := Lib.hid hN
      have e8 : ((N : Int)) ≤ (c1 : Int) := by omega
      have hN6 : N ≤ 100000 := by omega
      clear hN t1
      have hba : ba < w3.heap.size := World.block_lt_of_cell? w3 _ hca
      have hbb : bb < w3.heap.size := World.block_lt_of_cell? w3 _ hcb
      have HT := Lib.hid (And.intro htk (And.intro hdr (And.intro hba hbb)))
      clear htk hdr
      have F_0 := fun (C : World → Prop) (hC : Vs.Grows (fun j => w3.heap.size ≤ j) w3 C) (z : Vs.In C) => hC.cell p1 (by have := HSZ.out; simp only; omega) z
      have F_1 := fun (C : World → Prop) (hC : Vs.Grows (fun j => w3.heap.size ≤ j) w3 C) (z : Vs.In C) => hC.cell q1 (by have := HSZ.out; simp only; omega) z
      have F_2 := fun (C : World → Prop) (hC : Vs.Grows (fun j => w3.heap.size ≤ j) w3 C) (z : Vs.In C) => hC.cell hca (by simp only; omega) z
      have F_3 := fun (C : World → Prop) (hC : Vs.Grows (fun j => w3.heap.size ≤ j) w3 C) (z : Vs.In C) => hC.cell hcb (by simp only; omega) z
      clear hba hbb
      refine Vs.wp_region_tree (S := fun j => w3.heap.size ≤ j) [] (.fork ([0, 1, 2, 5, 6, 7, 8, 9, 10, 11, 12, 13, 14].map (fun i => (i, 0)) ++ [(3, 2)]) 4 15 (.path [(15, 1), (16, 1), (17, 2)]) (.path [(4, 1), (16, 1), (17, 2)])) (by kernel_rfl) (by kernel_rfl) ?_
      refine Vs.wpTr_fork (Vs.wpPath_on [0, 1, 2, 5, 6, 7, 8, 9, 10, 11, 12, 13, 14] 66 rfl (by kernel_rfl) ?_)
      simp only [List.map_cons, List.map_nil, Vs.opOf_succ, Vs.opOf_zero]
      apply Exists.intro
      refine ⟨fun C hC => ?_, ?_⟩
      · haveI hI := hC.one
        have f_0 := F_0 C hC
        have f_1 := F_1 C hC
        have f_2 := F_2 C hC
        have f_3 := F_3 C hC
        repeat (go_big_quiet_step (fail))
        exact wpQuiet_nil rfl
      clear F_0 F_1 F_2 F_3
      refine Vs.wpPath_free (v := .slice (some ⟨ba, oa, none⟩) N c1) rfl rfl (fun W => by simp only [Vs.opOf_succ, Vs.opOf_zero]; go_simp) ?_
      simp only [Vs.opOf_succ, Vs.opOf_zero, Act.put, List.setIfInBounds_toArray, List.set_cons_zero, List.set_cons_succ]
      intro u hu
      have FX : Fr (fun j => w3.heap.size ≤ j) w3 u := Fr.ofBelow hu _
      clear hu p1 q1 hca hcb
      refine ⟨?_, ?_⟩
      · intro u hu
        have FX := FX.trans (Fr.ofBelow hu _)
        clear hu
        obtain ⟨d1, e1', v, hr1, own1, hg1, _⟩ := run_append_srcv (P := Try.prog) u 31 31 w3.heap.size ES i0 (.string ⟨#[]⟩) 1 16 underS hi0 hz0 hz1 hz2 rfl (by decide) (.slice none 0 0) 0 [] (World.ownsRow_nil _ _ _ _) (.slice (some ⟨ba, oa, none⟩) N c1) N _ (SrcV.fr HT.out.1 FX (fun h0 k hk hS => by have h6 := HT.out.2.2.1; simp only [blk, Option.some.injEq] at hk; omega)) (by simp only [maxLen]; omega) (by omega) FX.size
        refine Vs.fork_make rfl rfl (by simp only [Vs.opOf_succ, Vs.opOf_zero]; exact exec_append rfl rfl rfl hr1) ?_
        refine ⟨(Fr.refl _ u).grown hg1 (fun k hk => by cases hk), ?_⟩
        simp only [Vs.opOf_succ, Vs.opOf_zero, Act.put, List.setIfInBounds_toArray, List.set_cons_zero, List.set_cons_succ]
        have FX : Fr (fun j => w3.heap.size ≤ j) w3 v := FX.grown hg1 (fun k hk => by cases hk)
        clear hr1 hg1
        refine Vs.wpTr_path ?_
        refine Vs.wpPath_make rfl fun u hu => ?_
        have FX := FX.trans (Fr.ofBelow hu _)
        have own1 := ownsRow_fr own1 (Fr.ofBelow hu (fun _ => False)) (fun _ _ h => h)
        clear hu
        refine ⟨.slice (some ⟨u.heap.size, 0, none⟩) 1 1, u.alloc (.cells #[.string (sa ++ sb)] ES), rfl, by simp only [Vs.opOf_succ, Vs.opOf_zero]; go_simp, Fr.ofBelow (one_below _ _) _, ?_⟩
        simp only [Vs.opOf_succ, Vs.opOf_zero, Act.put, List.setIfInBounds_toArray, List.set_cons_zero, List.set_cons_succ]
        have hs1 : Ss (u.alloc (.cells #[.string (sa ++ sb)] ES)) (some ⟨u.heap.size, 0, none⟩) 1 1 [sa ++ sb] := SrcV.lit u #[.string (sa ++ sb)] ES 1 rfl (by simp [Value.oneCell']) (by simp [maxLen])
        obtain ⟨v, hv⟩ : ∃ v, v = u.alloc (.cells #[.string (sa ++ sb)] ES) := ⟨_, rfl⟩
        have hbv : Below u.heap.size u v := by rw [hv]; exact one_below _ _
        obtain ⟨g1, hg1⟩ : ∃ g1, g1 = u.heap.size := ⟨_, rfl⟩
        rw [← hv, ← hg1] at hs1
        rw [← hv, ← hg1]
        clear hv
        have FX := FX.trans (Fr.ofBelow hbv _)
        have own1 := ownsRow_fr own1 (Fr.ofBelow hbv (fun _ => False)) (fun _ _ h => h)
        clear hbv hg1
        refine Vs.wpPath_make rfl fun u2 hu2 => ?_
        have FX := FX.trans (Fr.ofBelow hu2 _)
        have own1 := ownsRow_fr own1 (Fr.ofBelow hu2 (fun _ => False)) (fun _ _ h => h)
        have hs1 := SrcV.below hs1 hu2
        obtain ⟨d3, e3', u3, hr3, own3, hg3, _⟩ := run_append_srcv (P := Try.prog) u2 31 31 w3.heap.size ES i0 (.string ⟨#[]⟩) 1 16 underS hi0 hz0 hz1 hz2 rfl (by decide) (.slice d1 (0 + N) e1') (0 + N) _ own1 _ 1 _ hs1 (by simp only [maxLen]; omega) (by omega) FX.size
        refine ⟨_, u3, rfl, by simp only [Vs.opOf_succ, Vs.opOf_zero]; exact exec_append rfl rfl rfl hr3, (Fr.refl _ u2).grown hg3 (fun k hk _ => (own1.lt k hk).1), ?_⟩
        simp only [Vs.opOf_succ, Vs.opOf_zero, Act.put, List.setIfInBounds_toArray, List.set_cons_zero, List.set_cons_succ]
        have FX := FX.grown hg3 (fun k hk _ => (own1.lt k hk).1)
        rw [List.nil_append, ← List.map_append] at own3
        clear hr3 hg3 own1 hs1 hu2
        obtain ⟨M, hM⟩ : ∃ M, M = 0 + N + 1 := ⟨_, rfl⟩
        rw [← hM] at own3
        rw [← hM]
        have hM6 : M ≤ 100001 := by omega
        clear hM
        refine Vs.wpPath_free (v := .slice d3 M e3') rfl rfl (fun _ => rfl) ?_
        simp only [Vs.opOf_succ, Vs.opOf_zero, Act.put, List.setIfInBounds_toArray, List.set_cons_zero, List.set_cons_succ]
        refine Vs.wpPath_end fun u4 hu4 => ?_
        have FX := FX.trans (Fr.ofBelow hu4 _)
        have own3 := ownsRow_fr own3 (Fr.ofBelow hu4 (fun _ => False)) (fun _ _ h => h)
        clear hu4
        have q1 := FX.cell (HW.out.2.2.2.1.c1) (by have := HSZ.out; simp only; omega)
        simp only [sv] at q1
        have HFX := Lib.hid (And.intro FX own3)
        clear FX own3
        go_wp2_with (at_builtin; go_must (refine append_srcv _ rfl _ _ 31 rfl w3.heap.size ES i0 (.string ⟨#[]⟩) 1 16 underS hi0 hz0 hz1 hz2 rfl (by decide) (.slice d3 M e3') M _ rfl HFX.out.2 (.slice (some AD) (n2 - 1) (c2 - 1)) (n2 - 1) _ rfl (SrcV.fr HT.out.2.1 HFX.out.1 (fun h0 k hk hS => by have h6 := SrcV.blkLt HT.out.2.1 (by omega) k hk; omega)) (by simp only [maxLen]; omega) (by omega) HFX.out.1.size ?_); intro ra rc u6 own6 hg6 hnr; have HU := Lib.hid (And.intro own6 (HFX.out.1.grown hg6 (fun k hk _ => (HFX.out.2.lt k hk).1))); clear own6 hg6 hnr; obtain ⟨rn, hrn⟩ : ∃ rn, rn = M + (n2 - 1) := ⟨_, rfl⟩; rw [← hrn] at HU; rw [← hrn]; clear hrn; have hr5 := HW.out.2.2.2.2.fr HU.out.2 (by have := HSZ.out; omega); have m0 := hr5.c0; have m1 : u6.cell? ⟨w.heap.size + 2, 1, none⟩ = some (.slice none 0 0) := hr5.c1; have z := hr5.z; clear q1)
        have hown := HU.out.1
        rw [← List.map_append, List.append_assoc] at hown
        have HF := Lib.hid (put_ans (k := 0) (s := (ra, rn, rc)) (Nat.le_add_right _ 2) hB (HW.out.2.1.trans (HU.out.2.below HW.out.2.1.size (fun k hk => Nat.le_trans HW.out.2.1.size hk))) (HW.out.2.2.2.2.fr HU.out.2 (by have := HSZ.out; omega)) hown ((Below.refl (((u6.setCell ⟨w.heap.size + 2, 0, none⟩ (.int .i64 0)).setCell ⟨w.heap.size + 2, 1, none⟩ (sv (ra, rn, rc))).heap.size) _).mono (by simp [World.setCell])))
        rw [HNN.out, ← HJL.out] at HF
        exact ret_rg (g := w.heap.size + 2) rfl rfl rfl HF.out.1 ⟨_, rfl, HF.out.2.1, HF.out.2.2⟩
      · intro u hu
        have FX := FX.trans (Fr.ofBelow hu _)
        clear hu
        refine Vs.fork_make (W' := u.alloc (.cells #[.string (sa ++ sb)] ES)) (u := .slice (some ⟨u.heap.size, 0, none⟩) 1 1) rfl rfl (by simp only [Vs.opOf_succ, Vs.opOf_zero]; go_simp) ?_
        refine ⟨Fr.ofBelow (one_below _ _) _, ?_⟩
        simp only [Vs.opOf_succ, Vs.opOf_zero, Act.put, List.setIfInBounds_toArray, List.set_cons_zero, List.set_cons_succ]
        have hs1 : Ss (u.alloc (.cells #[.string (sa ++ sb)] ES)) (some ⟨u.heap.size, 0, none⟩) 1 1 [sa ++ sb] := SrcV.lit u #[.string (sa ++ sb)] ES 1 rfl (by simp [Value.oneCell']) (by simp [maxLen])
        obtain ⟨v, hv⟩ : ∃ v, v = u.alloc (.cells #[.string (sa ++ sb)] ES) := ⟨_, rfl⟩
        have hbv : Below u.heap.size u v := by rw [hv]; exact one_below _ _
        obtain ⟨g1, hg1⟩ : ∃ g1, g1 = u.heap.size := ⟨_, rfl⟩
        rw [← hv, ← hg1] at hs1
        rw [← hv, ← hg1]
        clear hv
        have FX := FX.trans (Fr.ofBelow hbv _)
        clear hbv hg1
        refine Vs.wpTr_path ?_
        refine Vs.wpPath_make rfl fun u hu => ?_
        have FX := FX.trans (Fr.ofBelow hu _)
        have hs1 := SrcV.below hs1 hu
        clear hu
        obtain ⟨d1, e1', v, hr1, own1, hg1, _⟩ := run_append_srcv (P := Try.prog) u 31 31 w3.heap.size ES i0 (.string ⟨#[]⟩) 1 16 underS hi0 hz0 hz1 hz2 rfl (by decide) (.slice none 0 0) 0 [] (World.ownsRow_nil _ _ _ _) (.slice (some ⟨ba, oa, none⟩) N c1) N _ (SrcV.fr HT.out.1 FX (fun h0 k hk hS => by have h6 := HT.out.2.2.1; simp only [blk, Option.some.injEq] at hk; omega)) (by simp only [maxLen]; omega) (by omega) FX.size
        refine ⟨_, v, rfl, by simp only [Vs.opOf_succ, Vs.opOf_zero]; exact exec_append rfl rfl rfl hr1, (Fr.refl _ u).grown hg1 (fun k hk => by cases hk), ?_⟩
        simp only [Vs.opOf_succ, Vs.opOf_zero, Act.put, List.setIfInBounds_toArray, List.set_cons_zero, List.set_cons_succ]
        have hs1 := SrcV.fr hs1 ((Fr.refl (fun _ => False) u).grown hg1 (fun k hk => by cases hk)) (by simp)
        have FX : Fr (fun j => w3.heap.size ≤ j) w3 v := FX.grown hg1 (fun k hk => by cases hk)
        clear hr1 hg1
        refine Vs.wpPath_make rfl fun u2 hu2 => ?_
        have FX := FX.trans (Fr.ofBelow hu2 _)
        have own1 := ownsRow_fr own1 (Fr.ofBelow hu2 (fun _ => False)) (fun _ _ h => h)
        have hs1 := SrcV.below hs1 hu2
        obtain ⟨d3, e3', u3, hr3, own3, hg3, _⟩ := run_append_srcv (P := Try.prog) u2 31 31 w3.heap.size ES i0 (.string ⟨#[]⟩) 1 16 underS hi0 hz0 hz1 hz2 rfl (by decide) (.slice d1 (0 + N) e1') (0 + N) _ own1 _ 1 _ hs1 (by simp only [maxLen]; omega) (by omega) FX.size
        refine ⟨_, u3, rfl, by simp only [Vs.opOf_succ, Vs.opOf_zero]; exact exec_append rfl rfl rfl hr3, (Fr.refl _ u2).grown hg3 (fun k hk _ => (own1.lt k hk).1), ?_⟩
        simp only [Vs.opOf_succ, Vs.opOf_zero, Act.put, List.setIfInBounds_toArray, List.set_cons_zero, List.set_cons_succ]
        have FX := FX.grown hg3 (fun k hk _ => (own1.lt k hk).1)
        rw [List.nil_append, ← List.map_append] at own3
        clear hr3 hg3 own1 hs1 hu2
        obtain ⟨M, hM⟩ : ∃ M, M = 0 + N + 1 := ⟨_, rfl⟩
        rw [← hM] at own3
        rw [← hM]
        have hM6 : M ≤ 100001 := by omega
        clear hM
        refine Vs.wpPath_free (v := .slice d3 M e3') rfl rfl (fun _ => rfl) ?_
        simp only [Vs.opOf_succ, Vs.opOf_zero, Act.put, List.setIfInBounds_toArray, List.set_cons_zero, List.set_cons_succ]
        refine Vs.wpPath_end fun u4 hu4 => ?_
        have FX := FX.trans (Fr.ofBelow hu4 _)
        have own3 := ownsRow_fr own3 (Fr.ofBelow hu4 (fun _ => False)) (fun _ _ h => h)
        clear hu4
        have q1 := FX.cell (HW.out.2.2.2.1.c1) (by have := HSZ.out; simp only; omega)
        simp only [sv] at q1
        have HFX := Lib.hid (And.intro FX own3)
        clear FX own3
        go_wp2_with (at_builtin; go_must (refine append_srcv _ rfl _ _ 31 rfl w3.heap.size ES i0 (.string ⟨#[]⟩) 1 16 underS hi0 hz0 hz1 hz2 rfl (by decide) (.slice d3 M e3') M _ rfl HFX.out.2 (.slice (some AD) (n2 - 1) (c2 - 1)) (n2 - 1) _ rfl (SrcV.fr HT.out.2.1 HFX.out.1 (fun h0 k hk hS => by have h6 := SrcV.blkLt HT.out.2.1 (by omega) k hk; omega)) (by simp only [maxLen]; omega) (by omega) HFX.out.1.size ?_); intro ra rc u6 own6 hg6 hnr; have HU := Lib.hid (And.intro own6 (HFX.out.1.grown hg6 (fun k hk _ => (HFX.out.2.lt k hk).1))); clear own6 hg6 hnr; obtain ⟨rn, hrn⟩ : ∃ rn, rn = M + (n2 - 1) := ⟨_, rfl⟩; rw [← hrn] at HU; rw [← hrn]; clear hrn; have hr5 := HW.out.2.2.2.2.fr HU.out.2 (by have := HSZ.out; omega); have m0 := hr5.c0; have m1 : u6.cell? ⟨w.heap.size + 2, 1, none⟩ = some (.slice none 0 0) := hr5.c1; have z := hr5.z; clear q1)
        have hown := HU.out.1
        rw [← List.map_append, List.append_assoc] at hown
        have HF := Lib.hid (put_ans (k := 0) (s := (ra, rn, rc)) (Nat.le_add_right _ 2) hB (HW.out.2.1.trans (HU.out.2.below HW.out.2.1.size (fun k hk => Nat.le_trans HW.out.2.1.size hk))) (HW.out.2.2.2.2.fr HU.out.2 (by have := HSZ.out; omega)) hown ((Below.refl (((u6.setCell ⟨w.heap.size + 2, 0, none⟩ (.int .i64 0)).setCell ⟨w.heap.size + 2, 1, none⟩ (sv (ra, rn, rc))).heap.size) _).mono (by simp [World.setCell])))
        rw [HNN.out, ← HJL.out] at HF
        exact ret_rg (g := w.heap.size + 2) rfl rfl rfl HF.out.1 ⟨_, rfl, HF.out.2.1, HF.out.2.2⟩
  · have HA : Hid (jn (k1, lg) (k2, lh) = (1, lg ++ lh)) := by
      show _ = _
      unfold jn
      rw [if_neg hk]
    rw [HA.out]
    clear HA
    by_cases hk1 : k1 = 0
    · subst hk1
      have e2 : (k2 == 0) = false := by rw [beq_eq_false_iff_ne]; exact fun e => hk ⟨rfl, e⟩
      clear hk
      go_enter Try.func25, Try.ntmps25
      go_wp2_with fail
      clear p0 p1 q0 q1
      rw [← HW.out.1]
      have p1 : w3.cell? ⟨w.heap.size, 1, none⟩ = some (.slice a1 n1 c1) := HW.out.2.2.1.c1
      have q1 : w3.cell? ⟨w.heap.size + 1, 1, none⟩ = some (.slice a2 n2 c2) := HW.out.2.2.2.1.c1
      have F_0 := fun (C : World → Prop) (hC : Vs.Grows (fun j => w3.heap.size ≤ j) w3 C) (z : Vs.In C) => hC.cell p1 (by have := HSZ.out; simp only; omega) z
      have F_1 := fun (C : World → Prop) (hC : Vs.Grows (fun j => w3.heap.size ≤ j) w3 C) (z : Vs.In C) => hC.cell q1 (by have := HSZ.out; simp only; omega) z
      refine Vs.wp_region_seg (S := fun j => w3.heap.size ≤ j) [0, 1, 3, 4] [(2, 1), (5, 1), (6, 2), (7, 3)] (by kernel_rfl) (by kernel_rfl) 66 rfl (by kernel_rfl) ?_
      simp only [List.map_cons, List.map_nil, Vs.opOf_succ, Vs.opOf_zero]
      apply Exists.intro
      refine ⟨fun C hC => ?_, ?_⟩
      · haveI hI := hC.one
        have f_0 := F_0 C hC
        have f_1 := F_1 C hC
        repeat (go_big_quiet_step (fail))
        exact wpQuiet_nil rfl
      clear F_0 F_1
      clear p1 q1
      refine Vs.wpPath_make rfl fun u0 hu0 => ?_
      obtain ⟨d1, e1', u1, hr1, own1, hg1, _⟩ := run_append_srcv (P := Try.prog) u0 31 31 w3.heap.size ES i0 (.string ⟨#[]⟩) 1 16 underS hi0 hz0 hz1 hz2 rfl (by decide) (.slice none 0 0) 0 [] (World.ownsRow_nil _ _ _ _) _ n1 _ (SrcV.below H1.out hu0) (by simp only [maxLen]; omega) (by omega) hu0.size
      refine ⟨_, u1, rfl, by simp only [Vs.opOf_succ, Vs.opOf_zero]; exact exec_append rfl rfl rfl hr1, (Fr.refl _ u0).grown hg1 (fun k hk => by cases hk), ?_⟩
      simp only [Vs.opOf_succ, Vs.opOf_zero, Act.put, List.setIfInBounds_toArray, List.set_cons_zero, List.set_cons_succ]
      have FX : Fr (fun j => w3.heap.size ≤ j) w3 u1 := (Fr.ofBelow hu0 _).grown hg1 (fun k hk => by cases hk)
      have hlt1 : ∀ k, 0 < n2 → blk (.slice a2 n2 c2) = some k → k < w3.heap.size := fun k h0 hk => SrcV.blkLt H2.out (by omega) k hk
      clear hr1 hg1 hu0
      refine Vs.wpPath_make rfl fun u2 hu2 => ?_
      have FX := FX.trans (Fr.ofBelow hu2 _)
      have own1 := ownsRow_fr own1 (Fr.ofBelow hu2 (fun _ => False)) (fun _ _ h => h)
      obtain ⟨ra, rc, u3, hr3, own3, hg3, _⟩ := run_append_srcv (P := Try.prog) u2 31 31 w3.heap.size ES i0 (.string ⟨#[]⟩) 1 16 underS hi0 hz0 hz1 hz2 rfl (by decide) (.slice d1 (0 + n1) e1') (0 + n1) _ own1 _ n2 _ (SrcV.fr H2.out FX (fun h0 k hk hS => by have := hlt1 k h0 hk; omega)) (by simp only [maxLen]; omega) (by omega) FX.size
      refine ⟨_, u3, rfl, by simp only [Vs.opOf_succ, Vs.opOf_zero]; exact exec_append rfl rfl rfl hr3, (Fr.refl _ u2).grown hg3 (fun k hk _ => (own1.lt k hk).1), ?_⟩
      simp only [Vs.opOf_succ, Vs.opOf_zero, Act.put, List.setIfInBounds_toArray, List.set_cons_zero, List.set_cons_succ]
      have FX := FX.grown hg3 (fun k hk _ => (own1.lt k hk).1)
      rw [List.nil_append, ← List.map_append] at own3
      clear hr3 hg3 own1 hu2 hlt1
      obtain ⟨rn, hrn⟩ : ∃ rn, rn = 0 + n1 + n2 := ⟨_, rfl⟩
      rw [← hrn] at own3
      rw [← hrn]
      clear hrn
      refine Vs.wpPath_free (v := .agg #[.int .i64 1, .slice ra rn rc]) rfl rfl (fun W => by simp only [Vs.opOf_succ, Vs.opOf_zero]; go_simp) ?_
      simp only [Vs.opOf_succ, Vs.opOf_zero, Act.put, List.setIfInBounds_toArray, List.set_cons_zero, List.set_cons_succ]
      refine Vs.wpPath_store rfl fun A3 hA3 => ?_
      have FX := FX.trans (Fr.ofBelow hA3 _)
      have hr5 := HW.out.2.2.2.2.fr FX (by have := HSZ.out; omega)
      have hown := ownsRow_fr own3 (Fr.ofBelow hA3 (fun _ => False)) (fun _ _ h => h)
      have hbX := HW.out.2.1.trans (FX.below HW.out.2.1.size (fun k hk => Nat.le_trans HW.out.2.1.size hk))
      have m0 := hr5.c0
      have m1 : A3.cell? ⟨w.heap.size + 2, 1, none⟩ = some (.slice none 0 0) := hr5.c1
      have z := hr5.z
      refine ⟨(A3.setCell ⟨w.heap.size + 2, 0, none⟩ (.int .i64 1)).setCell ⟨w.heap.size + 2, 1, none⟩ (.slice ra rn rc), rfl, by simp only [Vs.opOf_succ, Vs.opOf_zero]; go_simp, ?_⟩
      simp only [Vs.opOf_succ, Vs.opOf_zero, Act.put, List.setIfInBounds_toArray, List.set_cons_zero, List.set_cons_succ]
      refine Vs.wpPath_end fun A4 hA4 => ?_
      have HF := Lib.hid (put_ans (k := 1) (s := (ra, rn, rc)) (Nat.le_add_right _ 2) hB hbX hr5 hown (hA4.mono (by simp [World.setCell])))
      clear hA4 hr5 hown hA3 FX hbX m0 m1 z
      go_wp2
      exact ret_rg (g := w.heap.size + 2) rfl rfl rfl HF.out.1 ⟨_, rfl, HF.out.2.1, HF.out.2.2⟩
    · have e1 : (k1 == 0) = false := by rw [beq_eq_false_iff_ne]; exact hk1
      clear hk hk1
      go_enter Try.func25, Try.ntmps25
      go_wp2_with fail
      clear p0 p1 q0 q1
      rw [← HW.out.1]
      have p1 : w3.cell? ⟨w.heap.size, 1, none⟩ = some (.slice a1 n1 c1) := HW.out.2.2.1.c1
      have q1 : w3.cell? ⟨w.heap.size + 1, 1, none⟩ = some (.slice a2 n2 c2) := HW.out.2.2.2.1.c1
      have F_0 := fun (C : World → Prop) (hC : Vs.Grows (fun j => w3.heap.size ≤ j) w3 C) (z : Vs.In C) => hC.cell p1 (by have := HSZ.out; simp only; omega) z
      have F_1 := fun (C : World → Prop) (hC : Vs.Grows (fun j => w3.heap.size ≤ j) w3 C) (z : Vs.In C) => hC.cell q1 (by have := HSZ.out; simp only; omega) z
      refine Vs.wp_region_seg (S := fun j => w3.heap.size ≤ j) [0, 1, 3, 4] [(2, 1), (5, 1), (6, 2), (7, 3)] (by kernel_rfl) (by kernel_rfl) 66 rfl (by kernel_rfl) ?_
      simp only [List.map_cons, List.map_nil, Vs.opOf_succ, Vs.opOf_zero]
      apply Exists.intro
      refine ⟨fun C hC => ?_, ?_⟩
      · haveI hI := hC.one
        have f_0 := F_0 C hC
        have f_1 := F_1 C hC
        repeat (go_big_quiet_step (fail))
        exact wpQuiet_nil rfl
      clear F_0 F_1
      clear p1 q1
      refine Vs.wpPath_make rfl fun u0 hu0 => ?_
      obtain ⟨d1, e1', u1, hr1, own1, hg1, _⟩ := run_append_srcv (P := Try.prog) u0 31 31 w3.heap.size ES i0 (.string ⟨#[]⟩) 1 16 underS hi0 hz0 hz1 hz2 rfl (by decide) (.slice none 0 0) 0 [] (World.ownsRow_nil _ _ _ _) _ n1 _ (SrcV.below H1.out hu0) (by simp only [maxLen]; omega) (by omega) hu0.size
      refine ⟨_, u1, rfl, by simp only [Vs.opOf_succ, Vs.opOf_zero]; exact exec_append rfl rfl rfl hr1, (Fr.refl _ u0).grown hg1 (fun k hk => by cases hk), ?_⟩
      simp only [Vs.opOf_succ, Vs.opOf_zero, Act.put, List.setIfInBounds_toArray, List.set_cons_zero, List.set_cons_succ]
      have FX : Fr (fun j => w3.heap.size ≤ j) w3 u1 := (Fr.ofBelow hu0 _).grown hg1 (fun k hk => by cases hk)
      have hlt1 : ∀ k, 0 < n2 → blk (.slice a2 n2 c2) = some k → k < w3.heap.size := fun k h0 hk => SrcV.blkLt H2.out (by omega) k hk
      clear hr1 hg1 hu0
      refine Vs.wpPath_make rfl fun u2 hu2 => ?_
      have FX := FX.trans (Fr.ofBelow hu2 _)
      have own1 := ownsRow_fr own1 (Fr.ofBelow hu2 (fun _ => False)) (fun _ _ h => h)
      obtain ⟨ra, rc, u3, hr3, own3, hg3, _⟩ := run_append_srcv (P := Try.prog) u2 31 31 w3.heap.size ES i0 (.string ⟨#[]⟩) 1 16 underS hi0 hz0 hz1 hz2 rfl (by decide) (.slice d1 (0 + n1) e1') (0 + n1) _ own1 _ n2 _ (SrcV.fr H2.out FX (fun h0 k hk hS => by have := hlt1 k h0 hk; omega)) (by simp only [maxLen]; omega) (by omega) FX.size
      refine ⟨_, u3, rfl, by simp only [Vs.opOf_succ, Vs.opOf_zero]; exact exec_append rfl rfl rfl hr3, (Fr.refl _ u2).grown hg3 (fun k hk _ => (own1.lt k hk).1), ?_⟩
      simp only [Vs.opOf_succ, Vs.opOf_zero, Act.put, List.setIfInBounds_toArray, List.set_cons_zero, List.set_cons_succ]
      have FX := FX.grown hg3 (fun k hk _ => (own1.lt k hk).1)
      rw [List.nil_append, ← List.map_append] at own3
      clear hr3 hg3 own1 hu2 hlt1
      obtain ⟨rn, hrn⟩ : ∃ rn, rn = 0 + n1 + n2 := ⟨_, rfl⟩
      rw [← hrn] at own3
      rw [← hrn]
      clear hrn
      refine Vs.wpPath_free (v := .agg #[.int .i64 1, .slice ra rn rc]) rfl rfl (fun W => by simp only [Vs.opOf_succ, Vs.opOf_zero]; go_simp) ?_
      simp only [Vs.opOf_succ, Vs.opOf_zero, Act.put, List.setIfInBounds_toArray, List.set_cons_zero, List.set_cons_succ]
      refine Vs.wpPath_store rfl fun A3 hA3 => ?_
      have FX := FX.trans (Fr.ofBelow hA3 _)
      have hr5 := HW.out.2.2.2.2.fr FX (by have := HSZ.out; omega)
      have hown := ownsRow_fr own3 (Fr.ofBelow hA3 (fun _ => False)) (fun _ _ h => h)
      have hbX := HW.out.2.1.trans (FX.below HW.out.2.1.size (fun k hk => Nat.le_trans HW.out.2.1.size hk))
      have m0 := hr5.c0
      have m1 : A3.cell? ⟨w.heap.size + 2, 1, none⟩ = some (.slice none 0 0) := hr5.c1
      have z := hr5.z
      refine ⟨(A3.setCell ⟨w.heap.size + 2, 0, none⟩ (.int .i64 1)).setCell ⟨w.heap.size + 2, 1, none⟩ (.slice ra rn rc), rfl, by simp only [Vs.opOf_succ, Vs.opOf_zero]; go_simp, ?_⟩
      simp only [Vs.opOf_succ, Vs.opOf_zero, Act.put, List.setIfInBounds_toArray, List.set_cons_zero, List.set_cons_succ]
      refine Vs.wpPath_end fun A4 hA4 => ?_
      have HF := Lib.hid (put_ans (k := 1) (s := (ra, rn, rc)) (Nat.le_add_right _ 2) hB hbX hr5 hown (hA4.mono (by simp [World.setCell])))
      clear hA4 hr5 hown hA3 FX hbX m0 m1 z
      go_wp2
      exact ret_rg (g := w.heap.size + 2) rfl rfl rfl HF.out.1 ⟨_, rfl, HF.out.2.1, HF.out.2.2⟩
end Go.Proofs.Ytgfajagajiofnaa.Rg
