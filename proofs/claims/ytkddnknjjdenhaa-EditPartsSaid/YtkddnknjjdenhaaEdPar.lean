/-
  The law EditParts, walked.
-/
import Derived.Test.YtkddnknjjdenhaaEdo
import Derived.Test.YtkddnknjjdenhaaEdJoi
set_option linter.unusedVariables false
set_option linter.unusedSimpArgs false
set_option maxRecDepth 100000
namespace Go.Proofs.Ytkddnknjjdenhaa.EdPar
open Go Go.RowKit Go.Proofs.Ytkddnknjjdenhaa.Vk Go.Proofs.Ytkddnknjjdenhaa.Str Go.Proofs.Ytkddnknjjdenhaa.Ln Go.Proofs.Ytkddnknjjdenhaa.Cl Go.Proofs.Ytkddnknjjdenhaa.Mv Go.Proofs.Ytkddnknjjdenhaa.Ed Go.Proofs.Ytkddnknjjdenhaa.EdJoi
attribute [local go_sem] Oper.semAt_some

theorem neq_pos (a b c d : Int) (W : World) : (binOp .neq 24 (.agg #[.int .i64 a, .int .i64 b]) (.agg #[.int .i64 c, .int .i64 d])).run Try.prog W = .ok (.bool (!(decide (a = c) && decide (b = d)))) W := by
  have hS : Try.prog.underlying 24 = some (.struct (Try.prog.fieldsOf 24)) := by kernel_rfl
  have hp : Try.prog.stoodInHeld 24 = false := by kernel_rfl
  rw [run_neq_struct, show (10000 : Nat) = 9999 + 1 from rfl, run_equalIn_agg W 9999 24 _ _ hS hp]
  simp only [Program.fieldsOf, Try.underlying24]
  go_simp
  by_cases h1 : a = c <;> by_cases h2 : b = d <;> simp [h1, h2]
theorem empty_app (s : ByteArray) : (⟨#[]⟩ : ByteArray) ++ s = s := So.str_ext (by simp)
theorem prt {ls : List ByteArray} {i k : Nat} (hi : i < ls.length) (hk : k ≤ (lineAt ls i).size) : wrt ls i k [⟨#[]⟩, ⟨#[]⟩] = (((i : Int), cutL ls i i, [(lineAt ls i).extract 0 k, (lineAt ls i).extract k (lineAt ls i).size]), (((i + 1 : Nat) : Int), 0), true) := by
  unfold wrt
  rw [if_pos ⟨(plc_nat hi).2 hk, by decide⟩, Int.toNat_natCast, Int.toNat_natCast]
  have e1 : w1L (lineAt ls i) k [⟨#[]⟩, ⟨#[]⟩] = [(lineAt ls i).extract 0 k, ⟨#[]⟩] := by
    show [(lineAt ls i).extract 0 k ++ (⟨#[]⟩ : ByteArray), ⟨#[]⟩] = _
    rw [app_empty]
  have e2 : w2L (lineAt ls i) k [⟨#[]⟩, ⟨#[]⟩] = [(lineAt ls i).extract 0 k, (lineAt ls i).extract k (lineAt ls i).size] := by
    unfold w2L
    rw [e1]
    show [(lineAt ls i).extract 0 k, (⟨#[]⟩ : ByteArray) ++ (lineAt ls i).extract k (lineAt ls i).size] = _
    rw [empty_app]
  rw [e1, e2]
  rfl
theorem apl_two {ls : List ByteArray} {i : Nat} (hi : i < ls.length) (x y : ByteArray) : (apl ls i i [x, y]).length = ls.length + 1 ∧ lineAt (apl ls i i [x, y]) i = x ∧ lineAt (apl ls i i [x, y]) (i + 1) = y ∧ tz (apl ls i i [x, y]) ≤ 2 * tz ls + x.size + y.size + 2 := by
  have hl : (ls.take i).length = i := by rw [List.length_take]; omega
  refine ⟨?_, ?_, ?_, ?_⟩
  · unfold apl
    rw [List.length_append, List.length_append, hl, List.length_drop]
    simp
    omega
  · unfold apl lineAt
    rw [List.append_assoc, List.getElem?_append_right (by omega), hl, Nat.sub_self]
    rfl
  · unfold apl lineAt
    rw [List.append_assoc, List.getElem?_append_right (by omega), hl, show i + 1 - i = 1 by omega]
    rfl
  · unfold apl
    have h1 := tz_take ls i
    have h2 : tz (ls.drop (i + 1)) ≤ tz ls := by
      conv => rhs; rw [← List.take_append_drop (i + 1) ls]
      rw [tz_append]
      omega
    rw [tz_append, tz_append, tz_cons, tz_cons, tz_nil]
    omega
theorem jan_two {L : List ByteArray} {i : Nat} {x y : ByteArray} (h : i + 2 ≤ L.length) (hx : lineAt L i = x) (hy : lineAt L (i + 1) = y) : jan L i 2 = (((i : Int), cutL L i (i + 1), [jstep x y]), (jc x y : Int), true) := by
  unfold jan
  rw [if_pos ⟨by omega, by omega, by omega⟩, show ((i : Int) + 2 - 1).toNat = i + 1 by omega, Int.toNat_natCast, show ((2 : Int) - 1).toNat = 1 from rfl, show ((2 : Int) - 2).toNat = 0 from rfl]
  have e : jJ L i 1 = jstep x y := by
    show jstep (lineAt L i) (lineAt L (i + 1 + 0)) = _
    rw [hx, Nat.add_zero, hy]
  have e0 : jJ L i 0 = x := hx
  rw [e, e0, hy]
theorem jc_le (x y : ByteArray) : jc x y ≤ (jstep x y).size := by
  rw [← jc_min]
  omega
theorem ext_size {s : ByteArray} {k : Nat} (h : k ≤ s.size) : (s.extract 0 k).size = k ∧ (s.extract k s.size).size = s.size - k := by
  constructor
  · rw [ByteArray.size_extract]; omega
  · rw [ByteArray.size_extract]; omega
/-- Where no blank stands. -/
theorem parted {s : ByteArray} {k : Nat} (h0 : 0 < k) (h1 : k < s.size) (b1 : bl (s[k - 1]'(by omega)) = false) (b2 : bl (s[k]'h1) = false) (b3 : s[k]'h1 ≠ 41) :
    jstep (s.extract 0 k) (s.extract k s.size) = (s.extract 0 k ++ ⟨#[32]⟩) ++ s.extract k s.size ∧ jc (s.extract 0 k) (s.extract k s.size) = k := by
  obtain ⟨z1, z2⟩ := ext_size (s := s) (k := k) (by omega)
  have hf : (s.extract k s.size)[0]'(by omega) = s[k]'h1 := ext_first h1 (by omega)
  have hb : bn (s.extract k s.size) = 0 := by
    rcases Nat.eq_zero_or_pos (bn (s.extract k s.size)) with h | h
    · exact h
    · have h3 := bn_lt h (by omega)
      rw [hf, b2] at h3
      cases h3
  have hst : strip (s.extract k s.size) = s.extract k s.size := by
    unfold strip
    rw [hb, So.ext_all]
  have hl : (s.extract 0 k)[(s.extract 0 k).size - 1]'(by omega) = s[k - 1]'(by omega) := by
    rw [ByteArray.getElem_extract]
    congr 1
    omega
  have ha : apt (s.extract 0 k) (s.extract k s.size) = true := by
    unfold apt
    rw [dif_pos ⟨by omega, by omega⟩, hl, hf, b1, decide_eq_true b3]
    rfl
  constructor
  · unfold jstep
    rw [hst, if_pos ha]
  · unfold jc
    rw [hst, if_neg (by omega), z1]

set_option maxHeartbeats 8000000 in
theorem walk (a : Option Addr) (n c' : Nat) (ls : List ByteArray) (x y : Int) (w : World) (h : Ss w a n c' ls) (hs : ∀ s ∈ ls, s.size ≤ 140737488355328) (hx0 : (Lit.int .u16 x).wf = true) (hy0 : (Lit.int .u16 y).wf = true) :
    Calls Try.prog 7 #[.slice a n c', .int .u16 x, .int .u16 y] w fun e w' => e = .returned (.bool true) ∧ Below w.heap.size w w' := by
  have hk := known_any w
  have x2 : 0 ≤ x ∧ x ≤ 65535 := by simpa [Lit.wf, IntKind.min, IntKind.max, IntKind.signed, IntKind.bits] using hx0
  have y2 : 0 ≤ y ∧ y ≤ 65535 := by simpa [Lit.wf, IntKind.min, IntKind.max, IntKind.signed, IntKind.bits] using hy0
  have hlen := h.length
  have HI := Lib.hid (And.intro h (And.intro hs (And.intro x2 (And.intro y2 hlen))))
  clear h hs hx0 hy0 x2 y2 hlen
  go_enter Try.func7, Try.ntmps7
  go_wp2_with fail
  refine hk.mono ?_
  rintro e w1 ⟨rfl, hb1⟩
  clear hk
  have ht := text_any a n c' ls w1 (SrcV.below HI.out.1 hb1) HI.out.2.1
  have HB1 := Lib.hid hb1
  clear hb1
  go_wp2_with fail
  refine ht.mono ?_
  rintro e w1' ⟨q, rfl, rfl, hq⟩
  clear ht
  have HQ := Lib.hid hq
  clear hq
  cases q with
  | false =>
    go_wp2
    go_ret
    exact ⟨rfl, HB1.out⟩
  | true =>
    obtain ⟨h0, h40, htz, _⟩ := HQ.out rfl
    have hse := seat_eq a n c' ls x y w1 (SrcV.below HI.out.1 HB1.out) h0 HI.out.2.1 HI.out.2.2.1 HI.out.2.2.2.1
    obtain ⟨i, hi⟩ : ∃ i, i = seatL n x := ⟨_, rfl⟩
    have hin : i < ls.length := by
      have h1 := Int.tmod_lt_of_pos x (b := (n : Int)) (by omega)
      have h2 := Int.tmod_nonneg (n : Int) HI.out.2.2.1.1
      have h3 := HI.out.2.2.2.2
      unfold seatL at hi
      omega
    obtain ⟨k, hk⟩ : ∃ k, k = seatC ls n x y := ⟨_, rfl⟩
    have hkz : k ≤ (lineAt ls i).size := by
      have h1 := Int.tmod_lt_of_pos y (b := ((lineAt ls i).size : Int) + 1) (by omega)
      have h2 := Int.tmod_nonneg (((lineAt ls i).size : Int) + 1) HI.out.2.2.2.1.1
      unfold seatC at hk
      rw [← hi] at hk
      omega
    rw [← hi, ← hk] at hse
    have hsz : (lineAt ls i).size ≤ 2000 := by
      have := tz_mem ls _ (List.getElem_mem hin)
      rw [lineAt_get hin]
      omega
    have hP := prt hin hkz
    obtain ⟨st, hst⟩ : ∃ st, st = lineAt ls i := ⟨_, rfl⟩
    rw [← hst] at hkz hsz hP
    obtain ⟨M, hM⟩ : ∃ M, M = i + 1 := ⟨_, rfl⟩
    rw [← hM] at hP
    have H1 := Lib.hid (And.intro hin (And.intro h40 (And.intro htz (And.intro hst (And.intro hM hkz)))))
    clear hi hk hst HQ h40 htz h0 hM
    go_wp2_with fail
    refine hse.mono ?_
    rintro e w2 ⟨rfl, hb2⟩
    clear hse
    obtain ⟨V2, hV2⟩ : ∃ V2, V2 = w2.alloc (.cells #[.int .i64 i, .int .i64 k] 24) := ⟨_, rfl⟩
    obtain ⟨g2, hg2⟩ : ∃ g2, g2 = w2.heap.size := ⟨_, rfl⟩
    have hbV2 : Below w2.heap.size w2 V2 := by rw [hV2]; exact one_below _ _
    have p2 : PosAt V2 g2 i k := by rw [hV2, hg2]; exact PosAt.new w2 i k
    have hbb := below_on HB1.out (below_on hb2 hbV2)
    have hss := SrcV.below HI.out.1 hbb
    obtain ⟨b, o, rfl, hcx, hnc, hin2⟩ := Ss.read hss i hin
    rw [← lineAt_get hin, ← H1.out.2.2.2.1] at hcx
    obtain ⟨W2, hW2⟩ : ∃ W2, W2 = V2.alloc (.cells #[.string ⟨#[]⟩, .string ⟨#[]⟩] 9) := ⟨_, rfl⟩
    have hbW2 : Below V2.heap.size V2 W2 := by rw [hW2]; exact one_below _ _
    have l2 : Ss W2 (some ⟨V2.heap.size, 0, none⟩) 2 2 [⟨#[]⟩, ⟨#[]⟩] := by rw [hW2]; exact lit2 V2 _ _
    have hn6 : n ≤ 1000000 := by have := H1.out.2.1; omega
    have cw := write_any (some ⟨b, o, none⟩) n c' ls i k (some ⟨V2.heap.size, 0, none⟩) 2 2 [⟨#[]⟩, ⟨#[]⟩] W2 (SrcV.below hss hbW2) HI.out.2.1 l2 (fun s hs => by simp only [List.mem_cons, List.not_mem_nil, or_false] at hs; rcases hs with rfl | rfl <;> decide) hn6 (by omega)
    rw [hP] at cw
    have q0 := p2.c0
    have q1 := p2.c1
    have H2 := Lib.hid (And.intro hV2 (And.intro hW2 (And.intro (below_on hbb hbW2) (p2.below hbW2 p2.lt))))
    have e1 : (i : Int) < (n : Int) := by omega
    clear hV2 hW2 hbV2 p2 hbb hss hbW2 l2 hb2 hP
    go_upto_region 6 with fail
    rw [← hg2, ← H2.out.1]
    clear hg2
    go_wp2_with fail
    rw [← H2.out.2.1]
    clear q0 q1 hcx
    refine cw.mono ?_
    rintro e w3 ⟨⟨f3, ⟨oa3, on3, oc3⟩, na3, nn3, nc3⟩, rfl, hc3, hb3⟩
    simp only [cv, sv]
    obtain ⟨V3, hV3⟩ : ∃ V3, V3 = (w3.alloc (.cells #[.int .i64 f3, .slice oa3 on3 oc3, .slice na3 nn3 nc3] 31)).alloc (.cells #[.int .i64 (M : Int), .int .i64 0] 24) := ⟨_, rfl⟩
    obtain ⟨g3, hg3⟩ : ∃ g3, g3 = w3.heap.size := ⟨_, rfl⟩
    have hbV3 : Below w3.heap.size w3 V3 := by rw [hV3]; exact two_below _ _ _
    have a3 : ChAt V3 g3 (f3, (oa3, on3, oc3), (na3, nn3, nc3)) := by rw [hV3, hg3]; exact (ChAt.new w3 (f3, (oa3, on3, oc3), (na3, nn3, nc3))).below (one_below _ _) (by simp)
    have p3 : PosAt V3 (g3 + 1) (M : Int) 0 := by rw [hV3, hg3]; exact two_new w3 _ _
    have bb3 := below_on hb3 hbV3
    have cc3 := hc3.below hbV3
    have s3 := SrcV.below (SrcV.below HI.out.1 H2.out.2.2.1) bb3
    obtain ⟨W3, hW3⟩ : ∃ W3, W3 = V3.alloc (.cells #[.int .i64 f3, .slice oa3 on3 oc3, .slice na3 nn3 nc3] 31) := ⟨_, rfl⟩
    have hbW3 : Below V3.heap.size V3 W3 := by rw [hW3]; exact one_below _ _
    have hf3 : f3 = i := cc3.1
    subst hf3
    have hnn3 : nn3 = 2 := (Ss.length cc3.2.2).symm.trans rfl |>.trans rfl
    subst hnn3
    have ca := apply_yes (some ⟨b, o, none⟩) n c' ls V3.heap.size i i oa3 on3 oc3 na3 2 nc3 [st.extract 0 k, st.extract k st.size] W3 (SrcV.below s3 hbW3) (by rw [hW3]; exact ChAt.new V3 ((i : Int), (oa3, on3, oc3), (na3, 2, nc3))) (cc3.below hbW3) (Nat.le_refl _) hin2 hn6 (by omega) (by omega)
    have m0 := a3.c0
    have m1 : V3.cell? ⟨g3, 1, none⟩ = some (.slice oa3 on3 oc3) := a3.c1
    have m2 : V3.cell? ⟨g3, 2, none⟩ = some (.slice na3 2 nc3) := a3.c2
    have H3 := Lib.hid (And.intro hV3 (And.intro hW3 (And.intro (below_on H2.out.2.2.1 (below_on bb3 hbW3)) (And.intro (H2.out.2.2.2.below (below_on bb3 hbW3) H2.out.2.2.2.lt) (p3.below hbW3 p3.lt)))))
    clear hV3 hW3 hbV3 hbW3 a3 p3 bb3 cc3 hc3 hb3 s3 cw
    go_upto_region 8 with fail
    rw [← hg3, ← H3.out.1]
    clear hg3
    go_wp2_with fail
    rw [← H3.out.2.1]
    clear m0 m1 m2
    refine ca.mono ?_
    rintro e w4 ⟨ra, rc, rfl, hs4, hb4⟩
    clear ca
    obtain ⟨hal, hax, hay, haz⟩ := apl_two (ls := ls) hin (st.extract 0 k) (st.extract k st.size)
    obtain ⟨L, hL⟩ : ∃ L, L = apl ls i i [st.extract 0 k, st.extract k st.size] := ⟨_, rfl⟩
    rw [← hL] at hs4 hal hax hay haz
    rw [← hL]
    obtain ⟨z1, z2⟩ := ext_size (s := st) (k := k) hkz
    have hLz : tz L ≤ 1000000 := by have := H1.out.2.2.1; omega
    have hL6 : L.length ≤ 1000000 := by have := H1.out.2.1; have := HI.out.2.2.2.2; omega
    have hJ := jan_two (L := L) (i := i) (by omega) hax hay
    have hs4' := hs4
    rw [← H1.out.2.2.2.2.1] at hay
    obtain ⟨nb, no, rfl, d1, dc, dn⟩ := Ss.read hs4 i (by omega)
    obtain ⟨nb', no', he, d2, dc2, dn2⟩ := Ss.read hs4 M (by have := H1.out.2.2.2.2.1; omega)
    simp only [Option.some.injEq, Addr.mk.injEq, and_true] at he
    obtain ⟨rfl, rfl⟩ := he
    rw [← lineAt_get (by omega), hax] at d1
    rw [← lineAt_get (by omega), hay] at d2
    have hbb := below_on H3.out.2.2.1 hb4
    have p4 := H3.out.2.2.2.1.below hb4 H3.out.2.2.2.1.lt
    have r4 := H3.out.2.2.2.2.below hb4 H3.out.2.2.2.2.lt
    have q0 := p4.c0
    have q1 := p4.c1
    have u0 := r4.c0
    have u1 := r4.c1
    have hne := fun W => neq_pos (M : Int) 0 (M : Int) 0 W
    simp only [decide_true, Bool.and_true, Bool.not_true] at hne
    have e2 : IntKind.i64.wrap ((i : Int) + 1) = (M : Int) := by rw [IntKind.wrap_i64]; have := H1.out.2.2.2.2.1; omega
    have e3 : IntKind.i64.wrap ((n : Int) + 1) = ((L.length : Nat) : Int) := by rw [IntKind.wrap_i64]; have := HI.out.2.2.2.2; omega
    have e4 : (i : Int) < (L.length : Int) := by omega
    have e5 : (M : Int) < (L.length : Int) := by omega
    have H4 := Lib.hid (And.intro hbb (And.intro p4 (And.intro hs4' (And.intro hJ (And.intro hLz hL6)))))
    clear hbb p4 r4 hs4 hs4' hL hb4 hax hay haz hJ hal hLz hL6
    obtain ⟨N, hN⟩ : ∃ N, N = L.length := ⟨_, rfl⟩
    rw [← hN] at e3 e4 e5 dn dn2 dc dc2
    rw [← hN]
    obtain ⟨s1, hs1⟩ : ∃ s1, s1 = st.extract 0 k := ⟨_, rfl⟩
    obtain ⟨s2, hs2⟩ : ∃ s2, s2 = st.extract k st.size := ⟨_, rfl⟩
    rw [← hs1] at d1
    rw [← hs2] at d2
    have hx1 : st.extract 0 k = s1 := hs1.symm
    have hx2 : st.extract k st.size = s2 := hs2.symm
    have HX := Lib.hid (And.intro hs1 (And.intro hs2 (And.intro hN (And.intro z1 z2))))
    clear hs1 hs2 hN z1 z2
    go_wp2
    go_quiet (fail)
    obtain ⟨w5, hw5⟩ : ∃ w5, w5 = w4.drewN nq := ⟨_, rfl⟩
    have hb5 : Below w4.heap.size w4 w5 := by rw [hw5]; exact drewN_below _ _
    rw [← hw5]
    clear hw5 q0 q1 u0 u1 d1 d2 hne
    have p5 := H4.out.2.1.below hb5 H4.out.2.1.lt
    have q0 := p5.c0
    have q1 := p5.c1
    have cj := join_any (some ⟨nb, no, none⟩) L.length rc L i 2 w5 (SrcV.below H4.out.2.2.1 hb5) H4.out.2.2.2.2.2 H4.out.2.2.2.2.1 (by omega)
    rw [H4.out.2.2.2.1, hx1, hx2] at cj
    rw [← HX.out.2.2.1] at cj
    have H5 := Lib.hid (And.intro (below_on H4.out.1 hb5) p5)
    clear hb5 p5
    go_wp2_with fail
    clear q0 q1
    refine cj.mono ?_
    rintro e w6 ⟨⟨f6, ⟨oa6, on6, oc6⟩, na6, nn6, nc6⟩, rfl, hc6, hb6⟩
    simp only [cv, sv]
    obtain ⟨V6, hV6⟩ : ∃ V6, V6 = w6.alloc (.cells #[.int .i64 f6, .slice oa6 on6 oc6, .slice na6 nn6 nc6] 31) := ⟨_, rfl⟩
    obtain ⟨g6, hg6⟩ : ∃ g6, g6 = w6.heap.size := ⟨_, rfl⟩
    have hbV6 : Below w6.heap.size w6 V6 := by rw [hV6]; exact one_below _ _
    have a6 : ChAt V6 g6 (f6, (oa6, on6, oc6), (na6, nn6, nc6)) := by rw [hV6, hg6]; exact ChAt.new w6 (f6, (oa6, on6, oc6), (na6, nn6, nc6))
    have bb6 := below_on hb6 hbV6
    have cc6 := hc6.below hbV6
    obtain ⟨J, hJ⟩ : ∃ J, J = jstep s1 s2 := ⟨_, rfl⟩
    obtain ⟨T, hT⟩ : ∃ T, T = jc s1 s2 := ⟨_, rfl⟩
    have hTJ : T ≤ J.size := by rw [hT, hJ]; exact jc_le s1 s2
    rw [← hJ] at cc6
    rw [← hT]
    have hn1 : nn6 = 1 := (Ss.length cc6.2.2).symm.trans rfl |>.trans rfl
    subst hn1
    obtain ⟨nb6, no6, he6, d6, dc6, dn6⟩ := Ss.read cc6.2.2 0 (by show 0 < 1; omega)
    simp only at he6
    subst he6
    replace d6 : V6.cell? ⟨nb6, no6, none⟩ = some (.string J) := d6
    have p6 := H5.out.2.below bb6 H5.out.2.lt
    have q0 := p6.c0
    have q1 := p6.c1
    have m2 : V6.cell? ⟨g6, 2, none⟩ = some (.slice (some ⟨nb6, no6, none⟩) 1 nc6) := a6.c2
    have H6 := Lib.hid (And.intro hV6 (And.intro (below_on H5.out.1 bb6) (And.intro hJ hT)))
    have f1 : ¬ ((J.size : Int) < (T : Int)) := by omega
    have f1' : ¬ (J.size < T) := by omega
    clear hV6 hbV6 a6 cc6 hc6 hb6 bb6 p6 hJ hT hTJ cj dn6
    go_upto_region 12 with fail
    rw [← hg6, ← H6.out.1]
    clear hg6
    go_upto_region 14 with fail
    have hkz := H1.out.2.2.2.2.2
    have hofb := fun (z : UInt8) W => of5_bl z W
    by_cases h0 : 0 < k
    rotate_left
    · have c0 : ¬ (0 : Int) < (k : Int) := by omega
      have c0' : ¬ 0 < k := h0
      clear h0
      go_wp2
      go_ret
      exact ⟨rfl, H6.out.2.1⟩
    by_cases h1 : k < st.size
    rotate_left
    · have c1 : ¬ (k : Int) < (st.size : Int) := by omega
      clear hofb
      go_wp2
      go_ret
      exact ⟨rfl, H6.out.2.1⟩
    obtain ⟨p, hp⟩ : ∃ p, p = k - 1 := ⟨_, rfl⟩
    have hps : p < st.size := by omega
    have e6 : IntKind.i64.wrap ((k : Int) - 1) = (p : Int) := by rw [IntKind.wrap_i64]; omega
    have e7 : (p : Int) < (st.size : Int) := by omega
    have e8 : (k : Int) < (st.size : Int) := by omega
    have o1 := hofb (st[p]'hps)
    have o2 := hofb (st[k]'h1)
    have HP := Lib.hid hp
    clear hp hofb
    cases b1 : bl (st[p]'hps) with
    | true =>
      rw [b1] at o1
      simp only [if_true] at o1
      clear b1 o2
      go_wp2_with (refine (o1 _).mono ?_; rintro e w' ⟨rfl, rfl⟩; clear o1)
      go_ret
      exact ⟨rfl, H6.out.2.1⟩
    | false =>
      have B1 := Lib.hid b1
      rw [b1] at o1
      simp only [Bool.false_eq_true, if_false] at o1
      clear b1
      cases b2 : bl (st[k]'h1) with
      | true =>
        rw [b2] at o2
        simp only [if_true] at o2
        clear b2
        go_wp2_with (first | (refine (o1 _).mono ?_; rintro e w' ⟨rfl, rfl⟩; clear o1) | (refine (o2 _).mono ?_; rintro e w' ⟨rfl, rfl⟩; clear o2))
        go_ret
        exact ⟨rfl, H6.out.2.1⟩
      | false =>
        have B2 := Lib.hid b2
        rw [b2] at o2
        simp only [Bool.false_eq_true, if_false] at o2
        clear b2
        have h41 := byte41 (st[k]'h1)
        by_cases b3 : st[k]'h1 = 41
        · rw [decide_eq_true b3] at h41
          clear b3
          go_wp2_with (first | (refine (o1 _).mono ?_; rintro e w' ⟨rfl, rfl⟩; clear o1) | (refine (o2 _).mono ?_; rintro e w' ⟨rfl, rfl⟩; clear o2))
          go_ret
          exact ⟨rfl, H6.out.2.1⟩
        · rw [decide_eq_false b3] at h41
          have hpt := parted (s := st) (k := k) h0 h1 (by have e := HP.out; subst e; exact B1.out) B2.out b3
          rw [hx1, hx2] at hpt
          have eJ : J = (s1 ++ ⟨#[32]⟩) ++ s2 := H6.out.2.2.1.trans hpt.1
          have eT : T = k := H6.out.2.2.2.trans hpt.2
          subst eT
          rw [eJ] at d6
          clear b3 hpt eJ f1 f1'
          have y0 : (⟨#[32]⟩ : ByteArray).size = 1 := rfl
          have y3 : s1.size + 1 + s2.size ≤ 9223372036854775807 := by have e1 := HX.out.1; have e2 := HX.out.2.1; have e3 := HX.out.2.2.2.1; have e4 := HX.out.2.2.2.2; rw [e1, e2]; omega
          have y4 : s1.size ≤ 9223372036854775806 := by omega
          have y5 : s1.size + 1 ≤ 9223372036854775807 := by omega
          have y1 : s1.size ≤ 2000 := by have e1 := HX.out.1; have e2 := HX.out.2.2.2.1; rw [e1]; omega
          have y2 : s2.size ≤ 2000 := by have e1 := HX.out.2.1; have e2 := HX.out.2.2.2.2; rw [e1]; omega
          go_wp2_with (first | (refine (o1 _).mono ?_; rintro e w' ⟨rfl, rfl⟩; clear o1) | (refine (o2 _).mono ?_; rintro e w' ⟨rfl, rfl⟩; clear o2) | fail)
          refine wp_region_quiet_lit (by kernel_rfl) (by kernel_rfl) ?_
          repeat (go_big_quiet_step (fail))
          refine wpQuiet_nil ?_
          rintro w9 ⟨nq, rfl⟩
          go_wp2
          go_ret
          exact ⟨rfl, below_on H6.out.2.1 (drewN_below _ _)⟩
end Go.Proofs.Ytkddnknjjdenhaa.EdPar
