/-
  The law RegsYank, walked.
-/
import Derived.Test.YtgfajagajiofnaaRo
import Derived.Test.YtgfajagajiofnaaRs
import Derived.Deep.CutRange
import Derived.Deep.CutBlock
set_option linter.unusedVariables false
set_option linter.unusedSimpArgs false
set_option maxRecDepth 100000
namespace Go.Proofs.Ytgfajagajiofnaa.RYan
open Go Go.RowKit Go.Proofs.Ytgfajagajiofnaa.Vk Go.Proofs.Ytgfajagajiofnaa.Str Go.Proofs.Ytgfajagajiofnaa.Ln Go.Proofs.Ytgfajagajiofnaa.Cl Go.Proofs.Ytgfajagajiofnaa.Rl Go.Proofs.Ytgfajagajiofnaa.Rg
attribute [local go_sem] Oper.semAt_some

theorem reg_ne_m {w : World} {B m b g : Nat} {L : ML G} {x : R} (h : Fls w B m b L) (hr : RegAt w g x) : ¬ m = g := fun e => by
  subst e
  have h1 := h.1
  unfold RegAt at hr
  rw [h1] at hr
  simp only [Option.some.injEq, Obj.cells.injEq] at hr
  exact absurd hr.2.1 (by decide)
theorem u8_of {l : Int} (h : (Lit.int .u8 l).wf = true) : 0 ≤ l ∧ l ≤ 255 := by simpa [Lit.wf, show IntKind.u8.min = 0 from rfl, show IntKind.u8.max = 255 from rfl] using h
/-- What a cut with no name leaves. -/
theorem cut_plain (L : ML G) (c : Nat) (g : G) (hc : reg c = 34) (hg : tz g.2 ≤ 4096) : (cut L c g).1 = 0 ∧ lk (cut L c g).2 34 = some g ∧ lk (cut L c g).2 48 = lk L 48 := by
  unfold cut
  rw [if_pos hc, if_pos hg]
  refine ⟨rfl, ?_, ?_⟩
  · show lk (if _ then _ else _) 34 = _
    split
    · rw [look_ins, if_neg (by omega), look_ins, if_pos rfl]
    · rw [look_ins, if_neg (by omega), look_dn34]
  · show lk (if _ then _ else _) 48 = _
    split
    · rw [look_ins, if_neg (by omega), look_ins, if_neg (by omega)]
    · rw [look_ins, if_neg (by omega), look_dn _ 8 (by omega), if_neg (by omega), look_ins, if_neg (by omega)]
theorem yank_plain (L : ML G) (c : Nat) (g : G) (hc : reg c = 34) (hg : tz g.2 ≤ 4096) : (yank L c g).1 = 0 ∧ lk (yank L c g).2 34 = some g ∧ lk (yank L c g).2 48 = some g := by
  unfold yank
  rw [if_pos hc, if_pos hg]
  exact ⟨rfl, by show lk (ins (ins L 34 g) 48 g) 34 = _; rw [look_ins, if_neg (by omega), look_ins, if_pos rfl], by show lk (ins (ins L 34 g) 48 g) 48 = _; rw [look_ins, if_pos rfl]⟩
/-- A text of two bytes that have just been laid. -/
theorem conv_two (W : World) (x : Int) (c d : Nat) (hx : x = (c : Int)) : ∃ s : ByteArray, s.size = 2 ∧ s.data.toList = [UInt8.ofNat c, UInt8.ofNat d] ∧ (convert 27 9 (.slice (some ⟨W.heap.size, 0, none⟩) 2 2)).run Try.prog (W.alloc (.cells #[.int .u8 x, .int .u8 (d : Int)] 5)) = .ok (.string s) (W.alloc (.cells #[.int .u8 x, .int .u8 (d : Int)] 5)) := by
  subst hx
  have h := conv_names (l := [c, d]) (SrcV.u8 W [c, d] 2 rfl (by omega))
  exact ⟨strN [c, d], rfl, rfl, h⟩

set_option maxHeartbeats 4000000 in
theorem walk (ba : Option Addr) (N cp : Nat) (bs : List Bool) (nm : Int) (w : World) (hb : SrcV w 1 (.slice ba N cp) N (bs.map .bool)) (wn : (Lit.int .u8 nm).wf = true) :
    Calls Try.prog 9 #[.slice ba N cp, .int .u8 nm] w fun e w' => e = .returned (.bool true) ∧ Below w.heap.size w w' := by
  have hk := known_any w
  have hnm := u8_of wn
  obtain ⟨d, hd⟩ : ∃ d, d = nm.toNat := ⟨_, rfl⟩
  obtain rfl : nm = (d : Int) := by omega
  have hd256 : d < 256 := by omega
  have HBS := Lib.hid (And.intro hb (show bs.length = N by have := hb.1; simpa using this))
  have hN63 : N ≤ 9223372036854775807 := hb.2.2.1
  clear hnm hd wn hb
  go_enter Try.func9, Try.ntmps9
  go_wp2_with fail
  refine hk.mono ?_
  rintro e w1 ⟨rfl, hb1⟩
  have HB := Lib.hid hb1
  clear hk hb1
  by_cases h30 : 30 < N
  · go_wp2
    go_ret
    exact ⟨rfl, HB.out⟩
  go_wp2_with fail
  refine (new_any w1 w1.heap.size (Nat.le_refl _)).mono ?_
  rintro e w2 ⟨rfl, hm2, hb2⟩
  obtain ⟨b, hbq⟩ : ∃ b, b = w1.heap.size := ⟨_, rfl⟩
  rw [← hbq] at hm2
  rw [← hbq]
  have HF2 := Lib.hid (And.intro hm2 (And.intro (below_on HB.out hb2) (And.intro (show b ≤ w2.heap.size by rw [hbq]; exact hb2.size) (show w.heap.size ≤ b by rw [hbq]; exact HB.out.size))))
  clear hbq hm2 hb2
  go_wp2
  obtain ⟨w3, hw3⟩ : ∃ w3, w3 = w2.alloc (.cells #[.int .i64 0, .slice none 0 0] 33) := ⟨_, rfl⟩
  have hb3 : Below w2.heap.size w2 w3 := by rw [hw3]; exact one_below _ _
  have hr3 : RegAt w3 w2.heap.size (0, none, 0, 0) := by rw [hw3]; exact RegAt.new w2 (0, none, 0, 0)
  rw [← hw3]
  obtain ⟨g6, hg6⟩ : ∃ g6, g6 = w2.heap.size := ⟨_, rfl⟩
  rw [← hg6] at hr3
  rw [← hg6]
  have HG6 := Lib.hid (show b ≤ g6 by rw [hg6]; exact HF2.out.2.2.1)
  have HW3 : Hid (Fls w3 b (b + 1) b [] ∧ RegAt w3 g6 (0, none, 0, 0) ∧ Below w.heap.size w w3) := ⟨HF2.out.1.below hb3, hr3, below_on HF2.out.2.1 hb3⟩
  clear hw3 hb3 hr3 hg6
  go_loopw [7, 8] (fun u i wr => ∃ (k : Nat) (q : Bool), k ≤ N ∧ i = .int .i64 k ∧ u = .bool q ∧ Hid (∃ (L : ML G) (x : R) (st : Option G), Fls wr b (b + 1) b L ∧ Ok L ∧ lk L 48 = st ∧ q = st.isSome ∧ RegAt wr g6 x ∧ El wr b x (gz st) ∧ Below w.heap.size w wr)) (fun _ i _ => N - (RowKit.intOf i).toNat)
  case atStart => exact ⟨0, false, Nat.zero_le _, rfl, rfl, [], (0, none, 0, 0), none, HW3.out.1, ok_nil, rfl, rfl, HW3.out.2.1, El.nil _ _, HW3.out.2.2⟩
  case round =>
    obtain ⟨k, q, hk, rfl, rfl, HR⟩ := hrel
    by_cases hkN : k < N
    rotate_left
    · obtain rfl : k = N := by omega
      obtain ⟨L, x, st, _, _, _, _, _, _, hbw⟩ := HR.out
      have HE := Lib.hid hbw
      clear hbw HR
      go_wp2
      go_ret
      exact ⟨rfl, HE.out⟩
    have hkb : k < bs.length := by have := HBS.out.2; omega
    obtain ⟨L, x, st, hf, hok, h48, hq, hr6, hex, hbw⟩ := HR.out
    obtain ⟨sb, so, hba, hcb, hcp, _⟩ := (SrcV.below HBS.out.1 (hbw.mono (Nat.le_refl _))).at (j := k) (u := .bool bs[k]) (by simp [hkb])
    subst hba
    obtain ⟨bq, hbq⟩ : ∃ bq, bq = bs[k] := ⟨_, rfl⟩
    rw [← hbq] at hcb
    clear hbq
    obtain ⟨sg, hsg, _, hcv⟩ := conv_two wr (97 + (k : Int) % 26) (97 + k % 26) d (by omega)
    go_upto_region 11 with fail
    obtain ⟨v1, hv1⟩ : ∃ v1, v1 = wr.alloc (.cells #[.int .u8 (97 + (k : Int) % 26), .int .u8 (d : Int)] 5) := ⟨_, rfl⟩
    have hs1 : v1.heap.size = wr.heap.size + 1 := by rw [hv1]; simp
    have hbv1 : Below wr.heap.size wr v1 := by rw [hv1]; exact one_below _ _
    rw [← hv1]
    obtain ⟨K, hK⟩ : ∃ K, K = (k : Int) % 3 := ⟨_, rfl⟩
    rw [← hK]
    obtain ⟨x1, x2, x3, x4⟩ := one_reg v1 b K sg
    obtain ⟨V, hV⟩ : ∃ V, V = rg1 v1 K sg := ⟨_, rfl⟩
    rw [← hV] at x1 x2 x3
    have hV' : V = (v1.alloc (.cells #[.string sg] 9)).alloc (.cells #[.int .i64 K, .slice (some ⟨wr.heap.size + 1, 0, none⟩) 1 1] 33) := by rw [hV, ← hs1]
    rw [← hV']
    rw [hs1] at x2 x3
    obtain ⟨a9, ha9⟩ : ∃ a9 : Option Addr, a9 = some ⟨wr.heap.size + 1, 0, none⟩ := ⟨_, rfl⟩
    obtain ⟨g9, hg9⟩ : ∃ g9, g9 = wr.heap.size + 1 + 1 := ⟨_, rfl⟩
    rw [← ha9] at x2 x3
    rw [← hg9] at x2
    rw [← hg9, ← ha9]
    have hbV := below_on hbv1 x1
    have hg69 : ¬ g6 = g9 := by have := hr6.lt; omega
    have hgt : tz (K, [sg]).2 = 3 := by show tz [sg] = 3; rw [tz_cons, tz_nil, hsg]
    have HV := Lib.hid (And.intro (hf.below hbV) (And.intro (hr6.below hbV hr6.lt) (And.intro (hex.below hbV) (And.intro x2 (And.intro x3 (And.intro hg69 (And.intro (below_on hbw hbV) (And.intro hok (And.intro h48 (And.intro hq hgt))))))))))
    have hcb := cell_later hbV hcb
    have hBV : b ≤ V.heap.size := Nat.le_trans (Nat.le_of_lt hf.blt) hbV.size
    clear hv1 hs1 hbv1 hK x1 x2 x3 x4 hV hV' ha9 hg9 hcv hf hr6 hex hbw hok h48 hq hbV hg69 hgt HR
    obtain ⟨xk, xa, xn, xc⟩ := x
    cases bq with
    | true =>
      have p0 := HV.out.2.2.2.1.c0
      have p1 : V.cell? ⟨g9, 1, none⟩ = some (.slice a9 1 1) := HV.out.2.2.2.1.c1
      have m0 := HV.out.2.1.c0
      have m1 : V.cell? ⟨g6, 1, none⟩ = some (.slice xa xn xc) := HV.out.2.1.c1
      have z := HV.out.2.1.z
      have hfX := (((Fr.refl (fun j => j = g6) V).setCell (p := ⟨g6, 0, none⟩) (fun _ => rfl) (.int .i64 K)).setCell (p := ⟨g6, 1, none⟩) (fun _ => rfl) (.slice a9 1 1))
      have hro6 : ∀ j, j = g6 → ¬ Ro V b j := fun j e => by subst e; exact HV.out.2.1.ro HG6.out
      have hX1 := HV.out.1.fr hfX (fun e => reg_ne_m HV.out.1 HV.out.2.1 e) (fun e => HV.out.1.reg_ne HV.out.2.1 e.symm) hro6
      have hX2 : RegAt ((V.setCell ⟨g6, 0, none⟩ (.int .i64 K)).setCell ⟨g6, 1, none⟩ (.slice a9 1 1)) g6 (K, a9, 1, 1) := HV.out.2.1.set (K, a9, 1, 1)
      have hX3 := HV.out.2.2.2.1.fr hfX (fun e => HV.out.2.2.2.2.2.1 e.symm)
      have hX4 := HV.out.2.2.2.2.1.fr hfX hro6
      have hX5 : Below w.heap.size w ((V.setCell ⟨g6, 0, none⟩ (.int .i64 K)).setCell ⟨g6, 1, none⟩ (.slice a9 1 1)) := (HV.out.2.2.2.2.2.2.1.setCell (p := ⟨g6, 0, none⟩) (Nat.le_trans HF2.out.2.2.2 HG6.out) (.int .i64 K)).setCell (p := ⟨g6, 1, none⟩) (Nat.le_trans HF2.out.2.2.2 HG6.out) (.slice a9 1 1)
      go_upto_region 13 with fail
      obtain ⟨X, hX⟩ : ∃ X, X = (V.setCell ⟨g6, 0, none⟩ (.int .i64 K)).setCell ⟨g6, 1, none⟩ (.slice a9 1 1) := ⟨_, rfl⟩
      have hBX : b ≤ X.heap.size := by rw [hX]; exact Nat.le_trans hBV hfX.size
      rw [← hX] at hX1 hX2 hX3 hX4 hX5
      rw [← hX]
      obtain ⟨y1, y2, y3⟩ := yank_plain L 0 (K, [sg]) rfl (by rw [HV.out.2.2.2.2.2.2.2.2.2.2]; omega)
      have hy : Calls Try.prog 14 #[.pointer (some ⟨b + 1, 0, none⟩), .int .u8 0, .agg #[.int .i64 K, .slice a9 1 1]] X fun e w' => Rg.Op X b (b + 1) b (yank L 0 (K, [sg])) e w' := yank_any 0 K a9 1 1 (K, [sg]) b (b + 1) b L X hX4 hX1 HV.out.2.2.2.2.2.2.2.1 (by omega) (by rw [HV.out.2.2.2.2.2.2.2.2.2.2]; omega) hBX
      have hok := ok_yank HV.out.2.2.2.2.2.2.2.1 0 (K, [sg])
      obtain ⟨Z, hZ⟩ : ∃ Z, Z = yank L 0 (K, [sg]) := ⟨_, rfl⟩
      rw [← hZ] at y1 y2 y3 hy hok
      obtain ⟨E, L'⟩ := Z
      simp only at y1 y2 y3 hok
      subst y1
      have p0 := hX3.c0
      have p1 : X.cell? ⟨g9, 1, none⟩ = some (.slice a9 1 1) := hX3.c1
      have HX := Lib.hid (And.intro hX1 (And.intro hX2 (And.intro hX3 (And.intro hX4 (And.intro hX5 (And.intro y2 (And.intro y3 hok)))))))
      clear hX hfX hro6 hX1 hX2 hX3 hX4 hX5 y2 y3 hok hZ m0 m1 z hcb
      go_wp2_with fail
      refine hy.mono ?_
      rintro e Y ⟨rfl, hY1, hfY⟩
      simp only
      have HY : Hid (Fls Y b (b + 1) b L' ∧ Ok L' ∧ lk L' 34 = some (K, [sg]) ∧ lk L' 48 = some (K, [sg]) ∧ RegAt Y g9 (K, a9, 1, 1) ∧ El Y b (K, a9, 1, 1) (K, [sg]) ∧ RegAt Y g6 (K, a9, 1, 1) ∧ El Y b (K, a9, 1, 1) (K, [sg]) ∧ Below w.heap.size w Y) :=
        ⟨hY1, HX.out.2.2.2.2.2.2.2, HX.out.2.2.2.2.2.1, HX.out.2.2.2.2.2.2.1, HX.out.2.2.1.fr hfY (HX.out.1.reg_ne HX.out.2.2.1), HX.out.2.2.2.1.fr hfY HX.out.1.ro, HX.out.2.1.fr hfY (HX.out.1.reg_ne HX.out.2.1), HX.out.2.2.2.1.fr hfY HX.out.1.ro, HX.out.2.2.2.2.1.trans (hfY.below HX.out.2.2.2.2.1.size (fun j e => by rw [e]; exact HF2.out.2.2.2))⟩
      clear hy hY1 hfY p0 p1
      have hg1 : Calls Try.prog 21 #[.pointer (some ⟨b + 1, 0, none⟩), .int .u8 0] Y fun e w' => RbOut Y b (K, [sg]) true e w' := by
        have h := get_any 0 b (b + 1) b L' Y HY.out.1 HY.out.2.1 (by omega) (Nat.le_of_lt HY.out.1.blt)
        rw [show reg 0 = 34 from rfl, HY.out.2.2.1] at h
        exact h
      have hg2 : ∀ W, Below Y.heap.size Y W → Calls Try.prog 21 #[.pointer (some ⟨b + 1, 0, none⟩), .int .u8 48] W fun e w' => RbOut W b (K, [sg]) true e w' := fun W hW => by
        have h := get_any 48 b (b + 1) b L' W (HY.out.1.below hW) HY.out.2.1 (by omega) (Nat.le_of_lt (HY.out.1.below hW).blt)
        rw [show reg 48 = 48 from rfl, HY.out.2.2.2.1] at h
        exact h
      go_wp2_with fail
      refine hg1.mono ?_
      rintro e v1 ⟨⟨k1, a1, n1, c1⟩, rfl, he1, hb1⟩
      simp only [rv, sv]
      clear hg1
      go_upto_region 18 with fail
      obtain ⟨v2, hv2⟩ : ∃ v2, v2 = v1.alloc (.cells #[.int .i64 k1, .slice a1 n1 c1] 33) := ⟨_, rfl⟩
      have hb2 : Below v1.heap.size v1 v2 := by rw [hv2]; exact one_below _ _
      have hr2 : RegAt v2 v1.heap.size (k1, a1, n1, c1) := by rw [hv2]; exact RegAt.new v1 (k1, a1, n1, c1)
      obtain ⟨u1, hu1⟩ : ∃ u1, u1 = v1.heap.size := ⟨_, rfl⟩
      rw [← hu1] at hr2
      rw [← hv2, ← hu1]
      have H2 := Lib.hid (And.intro (below_on hb1 hb2) (And.intro hr2 (he1.below hb2)))
      clear hv2 hb2 hr2 hu1 he1 hb1
      go_wp2_with fail
      refine (hg2 _ H2.out.1).mono ?_
      rintro e v3 ⟨⟨k3, a3, n3, c3⟩, rfl, he3, hb3⟩
      simp only [rv, sv]
      clear hg2
      go_upto_region 19 with fail
      obtain ⟨v4, hv4⟩ : ∃ v4, v4 = v3.alloc (.cells #[.int .i64 k3, .slice a3 n3 c3] 33) := ⟨_, rfl⟩
      have hb4 : Below v3.heap.size v3 v4 := by rw [hv4]; exact one_below _ _
      have hr4 : RegAt v4 v3.heap.size (k3, a3, n3, c3) := by rw [hv4]; exact RegAt.new v3 (k3, a3, n3, c3)
      obtain ⟨u3, hu3⟩ : ∃ u3, u3 = v3.heap.size := ⟨_, rfl⟩
      rw [← hu3] at hr4
      rw [← hv4, ← hu3]
      have H4 := Lib.hid (And.intro (below_on hb3 hb4) (And.intro hr4 (he3.below hb4)))
      clear hv4 hb4 hr4 hu3 he3 hb3
      have B4 := Lib.hid (below_on H2.out.1 H4.out.1)
      have p0 := (H2.out.2.1.below H4.out.1 H2.out.2.1.lt).c0
      have p1 : v4.cell? ⟨u1, 1, none⟩ = some (.slice a1 n1 c1) := (H2.out.2.1.below H4.out.1 H2.out.2.1.lt).c1
      have q0 := (HY.out.2.2.2.2.1.below B4.out HY.out.2.2.2.2.1.lt).c0
      have q1 : v4.cell? ⟨g9, 1, none⟩ = some (.slice a9 1 1) := (HY.out.2.2.2.2.1.below B4.out HY.out.2.2.2.2.1.lt).c1
      go_wp2_with fail
      refine (reg_true (H2.out.2.2.below H4.out.1) (HY.out.2.2.2.2.2.1.below B4.out)).mono ?_
      rintro e v5 ⟨rfl, hb5⟩
      clear p0 p1 q0 q1
      have B5 := Lib.hid (And.intro (below_on B4.out hb5) hb5)
      clear hb5
      have p0 := (H4.out.2.1.below B5.out.2 H4.out.2.1.lt).c0
      have p1 : v5.cell? ⟨u3, 1, none⟩ = some (.slice a3 n3 c3) := (H4.out.2.1.below B5.out.2 H4.out.2.1.lt).c1
      have q0 := (HY.out.2.2.2.2.2.2.1.below B5.out.1 HY.out.2.2.2.2.2.2.1.lt).c0
      have q1 : v5.cell? ⟨g6, 1, none⟩ = some (.slice a9 1 1) := (HY.out.2.2.2.2.2.2.1.below B5.out.1 HY.out.2.2.2.2.2.2.1.lt).c1
      go_wp2_with fail
      refine (reg_true (H4.out.2.2.below B5.out.2) (HY.out.2.2.2.2.2.2.2.1.below B5.out.1)).mono ?_
      rintro e v6 ⟨rfl, hb6⟩
      clear p0 p1 q0 q1
      have B6 := Lib.hid (below_on B5.out.1 hb6)
      clear hb6
      have HE : Hid (∃ (L : ML G) (x : R) (st : Option G), Fls v6 b (b + 1) b L ∧ Ok L ∧ lk L 48 = st ∧ true = st.isSome ∧ RegAt v6 g6 x ∧ El v6 b x (gz st) ∧ Below w.heap.size w v6) :=
        ⟨L', (K, a9, 1, 1), some (K, [sg]), HY.out.1.below B6.out, HY.out.2.1, HY.out.2.2.2.1, rfl, HY.out.2.2.2.2.2.2.1.below B6.out HY.out.2.2.2.2.2.2.1.lt, HY.out.2.2.2.2.2.2.2.1.below B6.out, HY.out.2.2.2.2.2.2.2.2.trans (B6.out.mono HY.out.2.2.2.2.2.2.2.2.size)⟩
      go_wp2
      go_roundw
      case rel => exact ⟨k + 1, true, by omega, by go_num, rfl, HE⟩
      case measure => simp [RowKit.intOf]; omega
    | false =>
      have p0 := HV.out.2.2.2.1.c0
      have p1 : V.cell? ⟨g9, 1, none⟩ = some (.slice a9 1 1) := HV.out.2.2.2.1.c1
      obtain ⟨y1, y2, y3⟩ := cut_plain L 34 (K, [sg]) rfl (by rw [HV.out.2.2.2.2.2.2.2.2.2.2]; omega)
      have hy : Calls Try.prog 18 #[.pointer (some ⟨b + 1, 0, none⟩), .int .u8 34, .agg #[.int .i64 K, .slice a9 1 1]] V fun e w' => Rg.Op V b (b + 1) b (cut L 34 (K, [sg])) e w' := cut_any 34 K a9 1 1 (K, [sg]) b (b + 1) b L V HV.out.2.2.2.2.1 HV.out.1 HV.out.2.2.2.2.2.2.2.1 (by omega) (by rw [HV.out.2.2.2.2.2.2.2.2.2.2]; omega) hBV
      have hok := ok_cut HV.out.2.2.2.2.2.2.2.1 34 (K, [sg])
      obtain ⟨Z, hZ⟩ : ∃ Z, Z = cut L 34 (K, [sg]) := ⟨_, rfl⟩
      rw [← hZ] at y1 y2 y3 hy hok
      rw [HV.out.2.2.2.2.2.2.2.2.1] at y3
      obtain ⟨E, L'⟩ := Z
      simp only at y1 y2 y3 hok
      subst y1
      have HX := Lib.hid (And.intro y2 (And.intro y3 hok))
      clear y2 y3 hok hZ
      go_wp2_with fail
      refine hy.mono ?_
      rintro e Y ⟨rfl, hY1, hfY⟩
      simp only
      have HY : Hid (Fls Y b (b + 1) b L' ∧ Ok L' ∧ lk L' 34 = some (K, [sg]) ∧ lk L' 48 = st ∧ RegAt Y g9 (K, a9, 1, 1) ∧ El Y b (K, a9, 1, 1) (K, [sg]) ∧ RegAt Y g6 (xk, xa, xn, xc) ∧ El Y b (xk, xa, xn, xc) (gz st) ∧ Below w.heap.size w Y) :=
        ⟨hY1, HX.out.2.2, HX.out.1, HX.out.2.1, HV.out.2.2.2.1.fr hfY (HV.out.1.reg_ne HV.out.2.2.2.1), HV.out.2.2.2.2.1.fr hfY HV.out.1.ro, HV.out.2.1.fr hfY (HV.out.1.reg_ne HV.out.2.1), HV.out.2.2.1.fr hfY HV.out.1.ro, HV.out.2.2.2.2.2.2.1.trans (hfY.below HV.out.2.2.2.2.2.2.1.size (fun j e => by rw [e]; exact HF2.out.2.2.2))⟩
      have HQ := Lib.hid HV.out.2.2.2.2.2.2.2.2.2.1
      clear hy hY1 hfY p0 p1 hcb hBV HX HV
      cases st with
      | none =>
        obtain rfl : q = false := HQ.out
        have hg1 : Calls Try.prog 21 #[.pointer (some ⟨b + 1, 0, none⟩), .int .u8 0] Y fun e w' => RbOut Y b (K, [sg]) true e w' := by
          have h := get_any 0 b (b + 1) b L' Y HY.out.1 HY.out.2.1 (by omega) (Nat.le_of_lt HY.out.1.blt)
          rw [show reg 0 = 34 from rfl, HY.out.2.2.1] at h
          exact h
        have hg2 : ∀ W, Below Y.heap.size Y W → Calls Try.prog 21 #[.pointer (some ⟨b + 1, 0, none⟩), .int .u8 48] W fun e w' => RbOut W b (0, []) false e w' := fun W hW => by
          have h := get_any 48 b (b + 1) b L' W (HY.out.1.below hW) HY.out.2.1 (by omega) (Nat.le_of_lt (HY.out.1.below hW).blt)
          rw [show reg 48 = 48 from rfl, HY.out.2.2.2.1] at h
          exact h
        go_wp2_with fail
        refine hg1.mono ?_
        rintro e v1 ⟨⟨k1, a1, n1, c1⟩, rfl, he1, hb1⟩
        simp only [rv, sv]
        clear hg1
        go_upto_region 18 with fail
        obtain ⟨v2, hv2⟩ : ∃ v2, v2 = v1.alloc (.cells #[.int .i64 k1, .slice a1 n1 c1] 33) := ⟨_, rfl⟩
        have hb2 : Below v1.heap.size v1 v2 := by rw [hv2]; exact one_below _ _
        have hr2 : RegAt v2 v1.heap.size (k1, a1, n1, c1) := by rw [hv2]; exact RegAt.new v1 (k1, a1, n1, c1)
        obtain ⟨u1, hu1⟩ : ∃ u1, u1 = v1.heap.size := ⟨_, rfl⟩
        rw [← hu1] at hr2
        rw [← hv2, ← hu1]
        have H2 := Lib.hid (And.intro (below_on hb1 hb2) (And.intro hr2 (he1.below hb2)))
        clear hv2 hb2 hr2 hu1 he1 hb1
        go_wp2_with fail
        refine (hg2 _ H2.out.1).mono ?_
        rintro e v3 ⟨⟨k3, a3, n3, c3⟩, rfl, he3, hb3⟩
        simp only [rv, sv]
        clear hg2
        go_upto_region 19 with fail
        obtain ⟨v4, hv4⟩ : ∃ v4, v4 = v3.alloc (.cells #[.int .i64 k3, .slice a3 n3 c3] 33) := ⟨_, rfl⟩
        have hb4 : Below v3.heap.size v3 v4 := by rw [hv4]; exact one_below _ _
        have hr4 : RegAt v4 v3.heap.size (k3, a3, n3, c3) := by rw [hv4]; exact RegAt.new v3 (k3, a3, n3, c3)
        obtain ⟨u3, hu3⟩ : ∃ u3, u3 = v3.heap.size := ⟨_, rfl⟩
        rw [← hu3] at hr4
        rw [← hv4, ← hu3]
        have H4 := Lib.hid (And.intro (below_on hb3 hb4) (And.intro hr4 (he3.below hb4)))
        clear hv4 hb4 hr4 hu3 he3 hb3
        have B4 := Lib.hid (below_on H2.out.1 H4.out.1)
        have p0 := (H2.out.2.1.below H4.out.1 H2.out.2.1.lt).c0
        have p1 : v4.cell? ⟨u1, 1, none⟩ = some (.slice a1 n1 c1) := (H2.out.2.1.below H4.out.1 H2.out.2.1.lt).c1
        have q0 := (HY.out.2.2.2.2.1.below B4.out HY.out.2.2.2.2.1.lt).c0
        have q1 : v4.cell? ⟨g9, 1, none⟩ = some (.slice a9 1 1) := (HY.out.2.2.2.2.1.below B4.out HY.out.2.2.2.2.1.lt).c1
        go_wp2_with fail
        refine (reg_true (H2.out.2.2.below H4.out.1) (HY.out.2.2.2.2.2.1.below B4.out)).mono ?_
        rintro e v5 ⟨rfl, hb5⟩
        clear p0 p1 q0 q1
        have B5 := Lib.hid (And.intro (below_on B4.out hb5) hb5)
        clear hb5
        have B6 := Lib.hid B5.out.1
        have HE : Hid (∃ (L : ML G) (x : R) (st : Option G), Fls v5 b (b + 1) b L ∧ Ok L ∧ lk L 48 = st ∧ false = st.isSome ∧ RegAt v5 g6 x ∧ El v5 b x (gz st) ∧ Below w.heap.size w v5) :=
          ⟨L', (xk, xa, xn, xc), none, HY.out.1.below B6.out, HY.out.2.1, HY.out.2.2.2.1, rfl, HY.out.2.2.2.2.2.2.1.below B6.out HY.out.2.2.2.2.2.2.1.lt, HY.out.2.2.2.2.2.2.2.1.below B6.out, HY.out.2.2.2.2.2.2.2.2.trans (B6.out.mono HY.out.2.2.2.2.2.2.2.2.size)⟩
        go_wp2
        go_roundw
        case rel => exact ⟨k + 1, false, by omega, by go_num, rfl, HE⟩
        case measure => simp [RowKit.intOf]; omega
      | some gs =>
        obtain rfl : q = true := HQ.out
        have hg1 : Calls Try.prog 21 #[.pointer (some ⟨b + 1, 0, none⟩), .int .u8 0] Y fun e w' => RbOut Y b (K, [sg]) true e w' := by
          have h := get_any 0 b (b + 1) b L' Y HY.out.1 HY.out.2.1 (by omega) (Nat.le_of_lt HY.out.1.blt)
          rw [show reg 0 = 34 from rfl, HY.out.2.2.1] at h
          exact h
        have hg2 : ∀ W, Below Y.heap.size Y W → Calls Try.prog 21 #[.pointer (some ⟨b + 1, 0, none⟩), .int .u8 48] W fun e w' => RbOut W b gs true e w' := fun W hW => by
          have h := get_any 48 b (b + 1) b L' W (HY.out.1.below hW) HY.out.2.1 (by omega) (Nat.le_of_lt (HY.out.1.below hW).blt)
          rw [show reg 48 = 48 from rfl, HY.out.2.2.2.1] at h
          exact h
        go_wp2_with fail
        refine hg1.mono ?_
        rintro e v1 ⟨⟨k1, a1, n1, c1⟩, rfl, he1, hb1⟩
        simp only [rv, sv]
        clear hg1
        go_upto_region 18 with fail
        obtain ⟨v2, hv2⟩ : ∃ v2, v2 = v1.alloc (.cells #[.int .i64 k1, .slice a1 n1 c1] 33) := ⟨_, rfl⟩
        have hb2 : Below v1.heap.size v1 v2 := by rw [hv2]; exact one_below _ _
        have hr2 : RegAt v2 v1.heap.size (k1, a1, n1, c1) := by rw [hv2]; exact RegAt.new v1 (k1, a1, n1, c1)
        obtain ⟨u1, hu1⟩ : ∃ u1, u1 = v1.heap.size := ⟨_, rfl⟩
        rw [← hu1] at hr2
        rw [← hv2, ← hu1]
        have H2 := Lib.hid (And.intro (below_on hb1 hb2) (And.intro hr2 (he1.below hb2)))
        clear hv2 hb2 hr2 hu1 he1 hb1
        go_wp2_with fail
        refine (hg2 _ H2.out.1).mono ?_
        rintro e v3 ⟨⟨k3, a3, n3, c3⟩, rfl, he3, hb3⟩
        simp only [rv, sv]
        clear hg2
        go_upto_region 19 with fail
        obtain ⟨v4, hv4⟩ : ∃ v4, v4 = v3.alloc (.cells #[.int .i64 k3, .slice a3 n3 c3] 33) := ⟨_, rfl⟩
        have hb4 : Below v3.heap.size v3 v4 := by rw [hv4]; exact one_below _ _
        have hr4 : RegAt v4 v3.heap.size (k3, a3, n3, c3) := by rw [hv4]; exact RegAt.new v3 (k3, a3, n3, c3)
        obtain ⟨u3, hu3⟩ : ∃ u3, u3 = v3.heap.size := ⟨_, rfl⟩
        rw [← hu3] at hr4
        rw [← hv4, ← hu3]
        have H4 := Lib.hid (And.intro (below_on hb3 hb4) (And.intro hr4 (he3.below hb4)))
        clear hv4 hb4 hr4 hu3 he3 hb3
        have B4 := Lib.hid (below_on H2.out.1 H4.out.1)
        have p0 := (H2.out.2.1.below H4.out.1 H2.out.2.1.lt).c0
        have p1 : v4.cell? ⟨u1, 1, none⟩ = some (.slice a1 n1 c1) := (H2.out.2.1.below H4.out.1 H2.out.2.1.lt).c1
        have q0 := (HY.out.2.2.2.2.1.below B4.out HY.out.2.2.2.2.1.lt).c0
        have q1 : v4.cell? ⟨g9, 1, none⟩ = some (.slice a9 1 1) := (HY.out.2.2.2.2.1.below B4.out HY.out.2.2.2.2.1.lt).c1
        go_wp2_with fail
        refine (reg_true (H2.out.2.2.below H4.out.1) (HY.out.2.2.2.2.2.1.below B4.out)).mono ?_
        rintro e v5 ⟨rfl, hb5⟩
        clear p0 p1 q0 q1
        have B5 := Lib.hid (And.intro (below_on B4.out hb5) hb5)
        clear hb5
        have p0 := (H4.out.2.1.below B5.out.2 H4.out.2.1.lt).c0
        have p1 : v5.cell? ⟨u3, 1, none⟩ = some (.slice a3 n3 c3) := (H4.out.2.1.below B5.out.2 H4.out.2.1.lt).c1
        have q0 := (HY.out.2.2.2.2.2.2.1.below B5.out.1 HY.out.2.2.2.2.2.2.1.lt).c0
        have q1 : v5.cell? ⟨g6, 1, none⟩ = some (.slice xa xn xc) := (HY.out.2.2.2.2.2.2.1.below B5.out.1 HY.out.2.2.2.2.2.2.1.lt).c1
        go_wp2_with fail
        refine (reg_true (H4.out.2.2.below B5.out.2) (HY.out.2.2.2.2.2.2.2.1.below B5.out.1)).mono ?_
        rintro e v6 ⟨rfl, hb6⟩
        clear p0 p1 q0 q1
        have B6 := Lib.hid (below_on B5.out.1 hb6)
        clear hb6
        have HE : Hid (∃ (L : ML G) (x : R) (st : Option G), Fls v6 b (b + 1) b L ∧ Ok L ∧ lk L 48 = st ∧ true = st.isSome ∧ RegAt v6 g6 x ∧ El v6 b x (gz st) ∧ Below w.heap.size w v6) :=
          ⟨L', (xk, xa, xn, xc), some gs, HY.out.1.below B6.out, HY.out.2.1, HY.out.2.2.2.1, rfl, HY.out.2.2.2.2.2.2.1.below B6.out HY.out.2.2.2.2.2.2.1.lt, HY.out.2.2.2.2.2.2.2.1.below B6.out, HY.out.2.2.2.2.2.2.2.2.trans (B6.out.mono HY.out.2.2.2.2.2.2.2.2.size)⟩
        go_wp2
        go_roundw
        case rel => exact ⟨k + 1, true, by omega, by go_num, rfl, HE⟩
        case measure => simp [RowKit.intOf]; omega
end Go.Proofs.Ytgfajagajiofnaa.RYan
