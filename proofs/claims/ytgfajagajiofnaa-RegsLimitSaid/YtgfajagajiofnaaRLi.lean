/-
  The law RegsLimit, walked.
-/
import Derived.Test.YtgfajagajiofnaaRz
import Derived.Test.YtgfajagajiofnaaRs
import Derived.Deep.CutRange
import Derived.Deep.CutBlock
set_option linter.unusedVariables false
set_option linter.unusedSimpArgs false
set_option maxRecDepth 100000
namespace Go.Proofs.Ytgfajagajiofnaa.RLi
open Go Go.RowKit Go.Proofs.Ytgfajagajiofnaa.Vk Go.Proofs.Ytgfajagajiofnaa.Str Go.Proofs.Ytgfajagajiofnaa.Ln Go.Proofs.Ytgfajagajiofnaa.Cl Go.Proofs.Ytgfajagajiofnaa.Rl Go.Proofs.Ytgfajagajiofnaa.Rg
attribute [local go_sem] Oper.semAt_some

theorem u8_of {l : Int} (h : (Lit.int .u8 l).wf = true) : 0 ≤ l ∧ l ≤ 255 := by simpa [Lit.wf, show IntKind.u8.min = 0 from rfl, show IntKind.u8.max = 255 from rfl] using h
/-- What a cut with no name leaves. -/
theorem cut_plain (L : ML G) (c : Nat) (g : G) (hc : reg c = 34) (hg : tz g.2 ≤ 4096) : (cut L c g).1 = 0 ∧ lk (cut L c g).2 34 = some g ∧ lk (cut L c g).2 48 = lk L 48 := by
  unfold cut
  rw [if_pos hc, if_pos hg]
  refine ⟨rfl, ?_, ?_⟩
  · show lk (if _ then _ else _) 34 = _
    split
    · rw [look_ins, if_neg (by omega), look_ins, if_pos rfl]
    · rw [look_ins, if_neg (by omega), look_dn34]
  · show lk (if _ then _ else _) 48 = _
    split
    · rw [look_ins, if_neg (by omega), look_ins, if_neg (by omega)]
    · rw [look_ins, if_neg (by omega), look_dn _ 8 (by omega), if_neg (by omega), look_ins, if_neg (by omega)]
theorem yank_plain (L : ML G) (c : Nat) (g : G) (hc : reg c = 34) (hg : tz g.2 ≤ 4096) : (yank L c g).1 = 0 ∧ lk (yank L c g).2 34 = some g ∧ lk (yank L c g).2 48 = some g := by
  unfold yank
  rw [if_pos hc, if_pos hg]
  exact ⟨rfl, by show lk (ins (ins L 34 g) 48 g) 34 = _; rw [look_ins, if_neg (by omega), look_ins, if_pos rfl], by show lk (ins (ins L 34 g) 48 g) 48 = _; rw [look_ins, if_pos rfl]⟩
/-- A text of two bytes that have just been laid. -/
theorem conv_two (W : World) (x : Int) (c d : Nat) (hx : x = (c : Int)) : ∃ s : ByteArray, s.size = 2 ∧ s.data.toList = [UInt8.ofNat c, UInt8.ofNat d] ∧ (convert 27 9 (.slice (some ⟨W.heap.size, 0, none⟩) 2 2)).run Try.prog (W.alloc (.cells #[.int .u8 x, .int .u8 (d : Int)] 5)) = .ok (.string s) (W.alloc (.cells #[.int .u8 x, .int .u8 (d : Int)] 5)) := by
  subst hx
  have h := conv_names (l := [c, d]) (SrcV.u8 W [c, d] 2 rfl (by omega))
  exact ⟨strN [c, d], rfl, rfl, h⟩
theorem yank_letter (L : ML G) (c : Nat) (g r : G) (hd : 97 ≤ reg c ∧ reg c ≤ 122) (h95 : c ≠ 95) (hr : pr L c g = r) (ht : tz r.2 ≤ 4096) : (yank L c g).1 = 0 ∧ lk (yank L c g).2 (reg c) = some r := by
  have hp : put L c g = (0, ins L (reg c) r) := by unfold put; rw [if_pos hd, hr, if_pos ht]
  unfold yank
  rw [if_neg (by omega), if_neg h95, hp]
  show (if (0 : Int) = 0 then _ else _ : Int × ML G).1 = 0 ∧ lk (if (0 : Int) = 0 then _ else _ : Int × ML G).2 _ = _
  rw [if_pos rfl, hand_some (by rw [look_ins, if_pos rfl])]
  exact ⟨rfl, by show lk (ins (ins L (reg c) r) 34 r) (reg c) = _; rw [look_ins, if_neg (by omega), look_ins, if_pos rfl]⟩
theorem yank_big (L : ML G) (c : Nat) (g r : G) (hd : 97 ≤ reg c ∧ reg c ≤ 122) (h95 : c ≠ 95) (hr : pr L c g = r) (ht : ¬ tz r.2 ≤ 4096) : yank L c g = (21, L) := by
  have hp : put L c g = (21, L) := by unfold put; rw [if_pos hd, hr, if_neg ht]
  unfold yank
  rw [if_neg (by omega), if_neg h95, hp]
  show (if (21 : Int) = 0 then _ else _) = _
  rw [if_neg (by decide)]
theorem yank_big34 (L : ML G) (c : Nat) (g : G) (hc : reg c = 34) (ht : ¬ tz g.2 ≤ 4096) : yank L c g = (21, L) := by unfold yank; rw [if_pos hc, if_neg ht]
def gxy : G := (0, [⟨#[120, 121]⟩])
theorem ok_xy : Ok (ins [] 97 gxy) := ok_ins ok_nil (.inr (.inr (.inr (by omega)))) (by decide)

set_option maxHeartbeats 4000000 in
theorem walk (n nm : Int) (q : Bool) (w : World) (wn0 : (Lit.int .u8 n).wf = true) (wn : (Lit.int .u8 nm).wf = true) :
    Calls Try.prog 6 #[.int .u8 n, .int .u8 nm, .bool q] w fun e w' => e = .returned (.bool true) ∧ Below w.heap.size w w' := by
  have hk := known_any w
  have hnm := u8_of wn
  have hn := u8_of wn0
  obtain ⟨d, hd⟩ : ∃ d, d = nm.toNat := ⟨_, rfl⟩
  obtain rfl : nm = (d : Int) := by omega
  obtain ⟨t, ht⟩ : ∃ t, t = n.toNat := ⟨_, rfl⟩
  obtain rfl : n = (t : Int) := by omega
  obtain ⟨T, hT⟩ : ∃ T, T = 4093 + t % 5 := ⟨_, rfl⟩
  obtain ⟨r, hr⟩ : ∃ r, r = d % 4 := ⟨_, rfl⟩
  have HT := Lib.hid (And.intro (show 4093 ≤ T ∧ T ≤ 4097 by omega) (show r < 4 by omega))
  have v1 : IntKind.i64.wrap (4093 + (t : Int) % 5) = (T : Int) := by rw [IntKind.wrap_i64]; omega
  have v2 : (d : Int) % 4 = (r : Int) := by omega
  have V1 := Lib.hid (show (4093 : Int) + (t : Int) % 5 = (T : Int) by omega)
  clear hnm hn hd ht wn wn0 hT hr
  go_enter Try.func6, Try.ntmps6
  go_wp2_with fail
  refine hk.mono ?_
  rintro e w1 ⟨rfl, hb1⟩
  have HB := Lib.hid hb1
  clear hk hb1
  go_upto_region 4 with fail
  try rw [V1.out]
  go_wp2_with fail
  refine (new_any w1 w1.heap.size (Nat.le_refl _)).mono ?_
  rintro e w2 ⟨rfl, hm2, hb2⟩
  obtain ⟨b, hbq⟩ : ∃ b, b = w1.heap.size := ⟨_, rfl⟩
  rw [← hbq] at hm2
  rw [← hbq]
  have HF2 := Lib.hid (And.intro hm2 (And.intro (below_on HB.out hb2) (And.intro (show b ≤ w2.heap.size by rw [hbq]; exact hb2.size) (show w.heap.size ≤ b by rw [hbq]; exact HB.out.size))))
  clear hbq hm2 hb2
  obtain ⟨w3, hmk, hb3, hs3, hcv⟩ := mkz w2 T (by have := HT.out; omega)
  have hcv3 := hcv w3 (Below.refl _ _)
  clear hs3
  go_upto_region 6 with fail
  obtain ⟨x1, x2, x3, x4⟩ := one_reg w3 b 0 (zs T)
  obtain ⟨V, hV⟩ : ∃ V, V = rg1 w3 0 (zs T) := ⟨_, rfl⟩
  rw [← hV] at x1 x2 x3 x4
  have hV' : V = (w3.alloc (.cells #[.string (zs T)] 9)).alloc (.cells #[.int .i64 0, .slice (some ⟨w3.heap.size, 0, none⟩) 1 1] 33) := hV
  rw [← hV']
  obtain ⟨a9, ha9⟩ : ∃ a9 : Option Addr, a9 = some ⟨w3.heap.size, 0, none⟩ := ⟨_, rfl⟩
  obtain ⟨g9, hg9⟩ : ∃ g9, g9 = w3.heap.size + 1 := ⟨_, rfl⟩
  rw [← ha9] at x2 x3
  rw [← hg9] at x2
  rw [← hg9, ← ha9]
  have hbV := below_on hb3 x1
  have HV := Lib.hid (And.intro (HF2.out.1.below hbV) (And.intro x2 (And.intro x3 (below_on HF2.out.2.1 hbV))))
  clear hV hV' ha9 hg9 x1 x2 x3 x4 hbV hmk hb3 hcv hcv3 v1
  obtain ⟨c, hc, hcr⟩ : ∃ c, (c = 0 ∨ c = 97 ∨ c = 34 ∨ c = 66) ∧ (V.alloc (.cells #[.int .u8 0, .int .u8 97, .int .u8 34, .int .u8 66] 5)).cell? ⟨V.heap.size, r, none⟩ = some (.int .u8 ((c : Nat) : Int)) := by
    have hrow := heap_alloc_new V (.cells #[.int .u8 0, .int .u8 97, .int .u8 34, .int .u8 66] 5)
    have h4 := HT.out.2
    obtain rfl | rfl | rfl | rfl : r = 0 ∨ r = 1 ∨ r = 2 ∨ r = 3 := by omega
    · exact ⟨0, .inl rfl, (cell_of_row _ _ 0 _ _ _ hrow).trans rfl⟩
    · exact ⟨97, .inr (.inl rfl), (cell_of_row _ _ 1 _ _ _ hrow).trans rfl⟩
    · exact ⟨34, .inr (.inr (.inl rfl)), (cell_of_row _ _ 2 _ _ _ hrow).trans rfl⟩
    · exact ⟨66, .inr (.inr (.inr rfl)), (cell_of_row _ _ 3 _ _ _ hrow).trans rfl⟩
  have hr4 : ¬ (4 : Int) ≤ (r : Int) := by have := HT.out; omega
  have hr4' : (r : Int) < 4 := by omega
  have HC := Lib.hid hc
  clear hc hr4
  go_upto_region 7 with fail
  obtain ⟨U, hU⟩ : ∃ U, U = V.alloc (.cells #[.int .u8 0, .int .u8 97, .int .u8 34, .int .u8 66] 5) := ⟨_, rfl⟩
  have hbU : Below V.heap.size V U := by rw [hU]; exact one_below _ _
  rw [← hU]
  have HU := Lib.hid (And.intro (HV.out.1.below hbU) (And.intro (HV.out.2.1.below hbU HV.out.2.1.lt) (And.intro (HV.out.2.2.1.below hbU) (HV.out.2.2.2.trans (hbU.mono HV.out.2.2.2.size)))))
  clear hU hbU hcr hr4' v2
  cases q with
  | false =>
    go_upto_region 12 with fail
    rcases HC.out with rfl | rfl | rfl | rfl
    · clear HC
      by_cases hfit : T + 1 ≤ 4096
      · have hy1 : (yank [] 0 (0, [zs T])).1 = 0 ∧ (gz (lk (yank [] 0 (0, [zs T])).2 34) = (0, [zs T]) ∧ (lk (yank [] 0 (0, [zs T])).2 34).isSome = true) := (by obtain ⟨h1, h2, _⟩ := yank_plain [] 0 (0, [zs T]) rfl (by show tz [zs T] ≤ 4096; rw [tz_cons, tz_nil, zs_size]; omega); exact ⟨h1, by rw [h2]; exact ⟨rfl, rfl⟩⟩)
        have hy := yank_any 0 0 a9 1 1 (0, [zs T]) b (b + 1) b [] U HU.out.2.2.1 HU.out.1 ok_nil (by omega) (show tz [zs T] ≤ 50000 by rw [tz_cons, tz_nil, zs_size]; have := HT.out; omega) (Nat.le_of_lt HU.out.1.blt)
        have hok := ok_yank ok_nil 0 (0, [zs T])
        obtain ⟨Q, hQ⟩ : ∃ Q, Q = yank [] 0 (0, [zs T]) := ⟨_, rfl⟩
        rw [← hQ] at hy hy1 hok
        obtain ⟨E, L'⟩ := Q
        simp only at hy1 hok
        obtain ⟨rfl, hy2, hy3⟩ := hy1
        have hy : Calls Try.prog 14 #[.pointer (some ⟨b + 1, 0, none⟩), .int .u8 0, .agg #[.int .i64 0, .slice a9 1 1]] U fun e w' => Rg.Op U b (b + 1) b (0, L') e w' := hy
        have p0 := HU.out.2.1.c0
        have p1 : U.cell? ⟨g9, 1, none⟩ = some (.slice a9 1 1) := HU.out.2.1.c1
        have HQ := Lib.hid (And.intro hok (And.intro hy2 hy3))
        clear hQ hok hy2 hy3
        go_wp2_with fail
        refine hy.mono ?_
        rintro e Y ⟨rfl, hY1, hfY⟩
        simp only
        have HY := Lib.hid (And.intro hY1 (HU.out.2.2.2.trans (hfY.below HU.out.2.2.2.size (fun j e => by rw [e]; exact HF2.out.2.2.2))))
        clear hy hY1 hfY p0 p1
        have hg : Calls Try.prog 21 #[.pointer (some ⟨b + 1, 0, none⟩), .int .u8 0] Y fun e w' => RbOut Y b (0, [zs T]) true e w' := by
          have h := get_any 0 b (b + 1) b L' Y HY.out.1 HQ.out.1 (by omega) (Nat.le_of_lt HY.out.1.blt)
          rw [show reg 0 = 34 from rfl, HQ.out.2.1, HQ.out.2.2] at h
          exact h
        go_wp2_with fail
        refine hg.mono ?_
        rintro e v1 ⟨⟨k1, a1, n1, c1⟩, rfl, he1, hb1⟩
        simp only [rv, sv]
        clear hg
        go_upto_region 14 with fail
        obtain ⟨v2, hv2⟩ : ∃ v2, v2 = v1.alloc (.cells #[.int .i64 k1, .slice a1 n1 c1] 33) := ⟨_, rfl⟩
        have hb2 : Below v1.heap.size v1 v2 := by rw [hv2]; exact one_below _ _
        have hr2 : RegAt v2 v1.heap.size (k1, a1, n1, c1) := by rw [hv2]; exact RegAt.new v1 (k1, a1, n1, c1)
        obtain ⟨u1, hu1⟩ : ∃ u1, u1 = v1.heap.size := ⟨_, rfl⟩
        rw [← hu1] at hr2
        rw [← hv2, ← hu1]
        have hel := he1.below hb2
        have HE := Lib.hid (HY.out.2.trans ((below_on hb1 hb2).mono HY.out.2.size))
        have p0 := hr2.c0
        have p1 : v2.cell? ⟨u1, 1, none⟩ = some (.slice a1 n1 c1) := hr2.c1
        clear hv2 hb2 hr2 hu1 he1 hb1
        have e7 : ((T : Int) : Int) + 1 ≤ 4096 := by have := HT.out; omega
        have e12 : IntKind.i64.wrap ((T : Int) + 1) = (T : Int) + 1 := by have := HT.out; rw [IntKind.wrap_i64]; omega
        have e8 : ((T : Int) : Int) < 4096 := by have := HT.out; omega
        have e9 : (T) < 4096 := by have := HT.out; omega
        have e10 : decide (((T : Int) : Int) + 1 ≤ 4096) = true := decide_eq_true e7
        have e11 : decide (((T : Int) : Int) < 4096) = true := decide_eq_true e8
        clear hfit
        have hn1 : n1 = 1 := hel.len.symm
        subst hn1
        obtain ⟨rb, ro, hra, hrc, hrn, _⟩ := Ss.read hel.2.1 0 (show 0 < [zs T].length from Nat.zero_lt_one)
        simp only at hra
        subst hra
        have hrc : v2.cell? ⟨rb, ro, none⟩ = some (.string (zs T)) := hrc
        have hkk : ((zs T).size : Int) = (T : Int) := by rw [zs_size]
        obtain ⟨SS, hSS⟩ : ∃ SS, SS = zs T := ⟨_, rfl⟩
        rw [← hSS] at hrc hkk
        clear hel hSS
        go_wp2
        go_ret
        exact ⟨rfl, HE.out⟩
      · have hy1 : (yank [] 0 (0, [zs T])).1 = 21 ∧ (gz (lk (yank [] 0 (0, [zs T])).2 34) = (0, []) ∧ (lk (yank [] 0 (0, [zs T])).2 34).isSome = false) := (by rw [yank_big34 [] 0 (0, [zs T]) rfl (by show ¬ tz [zs T] ≤ 4096; rw [tz_cons, tz_nil, zs_size]; omega)]; exact ⟨rfl, rfl, rfl⟩)
        have hy := yank_any 0 0 a9 1 1 (0, [zs T]) b (b + 1) b [] U HU.out.2.2.1 HU.out.1 ok_nil (by omega) (show tz [zs T] ≤ 50000 by rw [tz_cons, tz_nil, zs_size]; have := HT.out; omega) (Nat.le_of_lt HU.out.1.blt)
        have hok := ok_yank ok_nil 0 (0, [zs T])
        obtain ⟨Q, hQ⟩ : ∃ Q, Q = yank [] 0 (0, [zs T]) := ⟨_, rfl⟩
        rw [← hQ] at hy hy1 hok
        obtain ⟨E, L'⟩ := Q
        simp only at hy1 hok
        obtain ⟨rfl, hy2, hy3⟩ := hy1
        have hy : Calls Try.prog 14 #[.pointer (some ⟨b + 1, 0, none⟩), .int .u8 0, .agg #[.int .i64 0, .slice a9 1 1]] U fun e w' => Rg.Op U b (b + 1) b (21, L') e w' := hy
        have p0 := HU.out.2.1.c0
        have p1 : U.cell? ⟨g9, 1, none⟩ = some (.slice a9 1 1) := HU.out.2.1.c1
        have HQ := Lib.hid (And.intro hok (And.intro hy2 hy3))
        clear hQ hok hy2 hy3
        go_wp2_with fail
        refine hy.mono ?_
        rintro e Y ⟨rfl, hY1, hfY⟩
        simp only
        have HY := Lib.hid (And.intro hY1 (HU.out.2.2.2.trans (hfY.below HU.out.2.2.2.size (fun j e => by rw [e]; exact HF2.out.2.2.2))))
        clear hy hY1 hfY p0 p1
        have hg : Calls Try.prog 21 #[.pointer (some ⟨b + 1, 0, none⟩), .int .u8 0] Y fun e w' => RbOut Y b (0, []) false e w' := by
          have h := get_any 0 b (b + 1) b L' Y HY.out.1 HQ.out.1 (by omega) (Nat.le_of_lt HY.out.1.blt)
          rw [show reg 0 = 34 from rfl, HQ.out.2.1, HQ.out.2.2] at h
          exact h
        go_wp2_with fail
        refine hg.mono ?_
        rintro e v1 ⟨⟨k1, a1, n1, c1⟩, rfl, he1, hb1⟩
        simp only [rv, sv]
        clear hg
        go_upto_region 14 with fail
        obtain ⟨v2, hv2⟩ : ∃ v2, v2 = v1.alloc (.cells #[.int .i64 k1, .slice a1 n1 c1] 33) := ⟨_, rfl⟩
        have hb2 : Below v1.heap.size v1 v2 := by rw [hv2]; exact one_below _ _
        have hr2 : RegAt v2 v1.heap.size (k1, a1, n1, c1) := by rw [hv2]; exact RegAt.new v1 (k1, a1, n1, c1)
        obtain ⟨u1, hu1⟩ : ∃ u1, u1 = v1.heap.size := ⟨_, rfl⟩
        rw [← hu1] at hr2
        rw [← hv2, ← hu1]
        have hel := he1.below hb2
        have HE := Lib.hid (HY.out.2.trans ((below_on hb1 hb2).mono HY.out.2.size))
        have p0 := hr2.c0
        have p1 : v2.cell? ⟨u1, 1, none⟩ = some (.slice a1 n1 c1) := hr2.c1
        clear hv2 hb2 hr2 hu1 he1 hb1
        have e7 : ¬ ((T : Int) : Int) + 1 ≤ 4096 := by have := HT.out; omega
        have e12 : IntKind.i64.wrap ((T : Int) + 1) = (T : Int) + 1 := by have := HT.out; rw [IntKind.wrap_i64]; omega
        have e8 : ¬ ((T : Int) : Int) < 4096 := by have := HT.out; omega
        have e9 : ¬ (T) < 4096 := by have := HT.out; omega
        have e10 : decide (((T : Int) : Int) + 1 ≤ 4096) = false := decide_eq_false e7
        have e11 : decide (((T : Int) : Int) < 4096) = false := decide_eq_false e8
        clear hfit
        have hn1 : n1 = 0 := hel.len.symm
        subst hn1
        clear hel
        go_wp2
        go_ret
        exact ⟨rfl, HE.out⟩
    · clear HC
      by_cases hfit : T + 1 ≤ 4096
      · have hy1 : (yank [] 97 (0, [zs T])).1 = 0 ∧ (gz (lk (yank [] 97 (0, [zs T])).2 97) = (0, [zs T]) ∧ (lk (yank [] 97 (0, [zs T])).2 97).isSome = true) := (by obtain ⟨h1, h2⟩ := yank_letter [] 97 (0, [zs T]) (0, [zs T]) (by decide) (by decide) rfl (by show tz [zs T] ≤ 4096; rw [tz_cons, tz_nil, zs_size]; omega); have h2 : lk (yank [] 97 (0, [zs T])).2 97 = some (0, [zs T]) := h2; exact ⟨h1, by rw [h2]; exact ⟨rfl, rfl⟩⟩)
        have hy := yank_any 97 0 a9 1 1 (0, [zs T]) b (b + 1) b [] U HU.out.2.2.1 HU.out.1 ok_nil (by omega) (show tz [zs T] ≤ 50000 by rw [tz_cons, tz_nil, zs_size]; have := HT.out; omega) (Nat.le_of_lt HU.out.1.blt)
        have hok := ok_yank ok_nil 97 (0, [zs T])
        obtain ⟨Q, hQ⟩ : ∃ Q, Q = yank [] 97 (0, [zs T]) := ⟨_, rfl⟩
        rw [← hQ] at hy hy1 hok
        obtain ⟨E, L'⟩ := Q
        simp only at hy1 hok
        obtain ⟨rfl, hy2, hy3⟩ := hy1
        have hy : Calls Try.prog 14 #[.pointer (some ⟨b + 1, 0, none⟩), .int .u8 97, .agg #[.int .i64 0, .slice a9 1 1]] U fun e w' => Rg.Op U b (b + 1) b (0, L') e w' := hy
        have p0 := HU.out.2.1.c0
        have p1 : U.cell? ⟨g9, 1, none⟩ = some (.slice a9 1 1) := HU.out.2.1.c1
        have HQ := Lib.hid (And.intro hok (And.intro hy2 hy3))
        clear hQ hok hy2 hy3
        go_wp2_with fail
        refine hy.mono ?_
        rintro e Y ⟨rfl, hY1, hfY⟩
        simp only
        have HY := Lib.hid (And.intro hY1 (HU.out.2.2.2.trans (hfY.below HU.out.2.2.2.size (fun j e => by rw [e]; exact HF2.out.2.2.2))))
        clear hy hY1 hfY p0 p1
        have hg : Calls Try.prog 21 #[.pointer (some ⟨b + 1, 0, none⟩), .int .u8 97] Y fun e w' => RbOut Y b (0, [zs T]) true e w' := by
          have h := get_any 97 b (b + 1) b L' Y HY.out.1 HQ.out.1 (by omega) (Nat.le_of_lt HY.out.1.blt)
          rw [show reg 97 = 97 from rfl, HQ.out.2.1, HQ.out.2.2] at h
          exact h
        go_wp2_with fail
        refine hg.mono ?_
        rintro e v1 ⟨⟨k1, a1, n1, c1⟩, rfl, he1, hb1⟩
        simp only [rv, sv]
        clear hg
        go_upto_region 14 with fail
        obtain ⟨v2, hv2⟩ : ∃ v2, v2 = v1.alloc (.cells #[.int .i64 k1, .slice a1 n1 c1] 33) := ⟨_, rfl⟩
        have hb2 : Below v1.heap.size v1 v2 := by rw [hv2]; exact one_below _ _
        have hr2 : RegAt v2 v1.heap.size (k1, a1, n1, c1) := by rw [hv2]; exact RegAt.new v1 (k1, a1, n1, c1)
        obtain ⟨u1, hu1⟩ : ∃ u1, u1 = v1.heap.size := ⟨_, rfl⟩
        rw [← hu1] at hr2
        rw [← hv2, ← hu1]
        have hel := he1.below hb2
        have HE := Lib.hid (HY.out.2.trans ((below_on hb1 hb2).mono HY.out.2.size))
        have p0 := hr2.c0
        have p1 : v2.cell? ⟨u1, 1, none⟩ = some (.slice a1 n1 c1) := hr2.c1
        clear hv2 hb2 hr2 hu1 he1 hb1
        have e7 : ((T : Int) : Int) + 1 ≤ 4096 := by have := HT.out; omega
        have e12 : IntKind.i64.wrap ((T : Int) + 1) = (T : Int) + 1 := by have := HT.out; rw [IntKind.wrap_i64]; omega
        have e8 : ((T : Int) : Int) < 4096 := by have := HT.out; omega
        have e9 : (T) < 4096 := by have := HT.out; omega
        have e10 : decide (((T : Int) : Int) + 1 ≤ 4096) = true := decide_eq_true e7
        have e11 : decide (((T : Int) : Int) < 4096) = true := decide_eq_true e8
        clear hfit
        have hn1 : n1 = 1 := hel.len.symm
        subst hn1
        obtain ⟨rb, ro, hra, hrc, hrn, _⟩ := Ss.read hel.2.1 0 (show 0 < [zs T].length from Nat.zero_lt_one)
        simp only at hra
        subst hra
        have hrc : v2.cell? ⟨rb, ro, none⟩ = some (.string (zs T)) := hrc
        have hkk : ((zs T).size : Int) = (T : Int) := by rw [zs_size]
        obtain ⟨SS, hSS⟩ : ∃ SS, SS = zs T := ⟨_, rfl⟩
        rw [← hSS] at hrc hkk
        clear hel hSS
        go_wp2
        go_ret
        exact ⟨rfl, HE.out⟩
      · have hy1 : (yank [] 97 (0, [zs T])).1 = 21 ∧ (gz (lk (yank [] 97 (0, [zs T])).2 97) = (0, []) ∧ (lk (yank [] 97 (0, [zs T])).2 97).isSome = false) := (by rw [yank_big [] 97 (0, [zs T]) (0, [zs T]) (by decide) (by decide) rfl (by show ¬ tz [zs T] ≤ 4096; rw [tz_cons, tz_nil, zs_size]; omega)]; exact ⟨rfl, rfl, rfl⟩)
        have hy := yank_any 97 0 a9 1 1 (0, [zs T]) b (b + 1) b [] U HU.out.2.2.1 HU.out.1 ok_nil (by omega) (show tz [zs T] ≤ 50000 by rw [tz_cons, tz_nil, zs_size]; have := HT.out; omega) (Nat.le_of_lt HU.out.1.blt)
        have hok := ok_yank ok_nil 97 (0, [zs T])
        obtain ⟨Q, hQ⟩ : ∃ Q, Q = yank [] 97 (0, [zs T]) := ⟨_, rfl⟩
        rw [← hQ] at hy hy1 hok
        obtain ⟨E, L'⟩ := Q
        simp only at hy1 hok
        obtain ⟨rfl, hy2, hy3⟩ := hy1
        have hy : Calls Try.prog 14 #[.pointer (some ⟨b + 1, 0, none⟩), .int .u8 97, .agg #[.int .i64 0, .slice a9 1 1]] U fun e w' => Rg.Op U b (b + 1) b (21, L') e w' := hy
        have p0 := HU.out.2.1.c0
        have p1 : U.cell? ⟨g9, 1, none⟩ = some (.slice a9 1 1) := HU.out.2.1.c1
        have HQ := Lib.hid (And.intro hok (And.intro hy2 hy3))
        clear hQ hok hy2 hy3
        go_wp2_with fail
        refine hy.mono ?_
        rintro e Y ⟨rfl, hY1, hfY⟩
        simp only
        have HY := Lib.hid (And.intro hY1 (HU.out.2.2.2.trans (hfY.below HU.out.2.2.2.size (fun j e => by rw [e]; exact HF2.out.2.2.2))))
        clear hy hY1 hfY p0 p1
        have hg : Calls Try.prog 21 #[.pointer (some ⟨b + 1, 0, none⟩), .int .u8 97] Y fun e w' => RbOut Y b (0, []) false e w' := by
          have h := get_any 97 b (b + 1) b L' Y HY.out.1 HQ.out.1 (by omega) (Nat.le_of_lt HY.out.1.blt)
          rw [show reg 97 = 97 from rfl, HQ.out.2.1, HQ.out.2.2] at h
          exact h
        go_wp2_with fail
        refine hg.mono ?_
        rintro e v1 ⟨⟨k1, a1, n1, c1⟩, rfl, he1, hb1⟩
        simp only [rv, sv]
        clear hg
        go_upto_region 14 with fail
        obtain ⟨v2, hv2⟩ : ∃ v2, v2 = v1.alloc (.cells #[.int .i64 k1, .slice a1 n1 c1] 33) := ⟨_, rfl⟩
        have hb2 : Below v1.heap.size v1 v2 := by rw [hv2]; exact one_below _ _
        have hr2 : RegAt v2 v1.heap.size (k1, a1, n1, c1) := by rw [hv2]; exact RegAt.new v1 (k1, a1, n1, c1)
        obtain ⟨u1, hu1⟩ : ∃ u1, u1 = v1.heap.size := ⟨_, rfl⟩
        rw [← hu1] at hr2
        rw [← hv2, ← hu1]
        have hel := he1.below hb2
        have HE := Lib.hid (HY.out.2.trans ((below_on hb1 hb2).mono HY.out.2.size))
        have p0 := hr2.c0
        have p1 : v2.cell? ⟨u1, 1, none⟩ = some (.slice a1 n1 c1) := hr2.c1
        clear hv2 hb2 hr2 hu1 he1 hb1
        have e7 : ¬ ((T : Int) : Int) + 1 ≤ 4096 := by have := HT.out; omega
        have e12 : IntKind.i64.wrap ((T : Int) + 1) = (T : Int) + 1 := by have := HT.out; rw [IntKind.wrap_i64]; omega
        have e8 : ¬ ((T : Int) : Int) < 4096 := by have := HT.out; omega
        have e9 : ¬ (T) < 4096 := by have := HT.out; omega
        have e10 : decide (((T : Int) : Int) + 1 ≤ 4096) = false := decide_eq_false e7
        have e11 : decide (((T : Int) : Int) < 4096) = false := decide_eq_false e8
        clear hfit
        have hn1 : n1 = 0 := hel.len.symm
        subst hn1
        clear hel
        go_wp2
        go_ret
        exact ⟨rfl, HE.out⟩
    · clear HC
      by_cases hfit : T + 1 ≤ 4096
      · have hy1 : (yank [] 34 (0, [zs T])).1 = 0 ∧ (gz (lk (yank [] 34 (0, [zs T])).2 34) = (0, [zs T]) ∧ (lk (yank [] 34 (0, [zs T])).2 34).isSome = true) := (by obtain ⟨h1, h2, _⟩ := yank_plain [] 34 (0, [zs T]) rfl (by show tz [zs T] ≤ 4096; rw [tz_cons, tz_nil, zs_size]; omega); exact ⟨h1, by rw [h2]; exact ⟨rfl, rfl⟩⟩)
        have hy := yank_any 34 0 a9 1 1 (0, [zs T]) b (b + 1) b [] U HU.out.2.2.1 HU.out.1 ok_nil (by omega) (show tz [zs T] ≤ 50000 by rw [tz_cons, tz_nil, zs_size]; have := HT.out; omega) (Nat.le_of_lt HU.out.1.blt)
        have hok := ok_yank ok_nil 34 (0, [zs T])
        obtain ⟨Q, hQ⟩ : ∃ Q, Q = yank [] 34 (0, [zs T]) := ⟨_, rfl⟩
        rw [← hQ] at hy hy1 hok
        obtain ⟨E, L'⟩ := Q
        simp only at hy1 hok
        obtain ⟨rfl, hy2, hy3⟩ := hy1
        have hy : Calls Try.prog 14 #[.pointer (some ⟨b + 1, 0, none⟩), .int .u8 34, .agg #[.int .i64 0, .slice a9 1 1]] U fun e w' => Rg.Op U b (b + 1) b (0, L') e w' := hy
        have p0 := HU.out.2.1.c0
        have p1 : U.cell? ⟨g9, 1, none⟩ = some (.slice a9 1 1) := HU.out.2.1.c1
        have HQ := Lib.hid (And.intro hok (And.intro hy2 hy3))
        clear hQ hok hy2 hy3
        go_wp2_with fail
        refine hy.mono ?_
        rintro e Y ⟨rfl, hY1, hfY⟩
        simp only
        have HY := Lib.hid (And.intro hY1 (HU.out.2.2.2.trans (hfY.below HU.out.2.2.2.size (fun j e => by rw [e]; exact HF2.out.2.2.2))))
        clear hy hY1 hfY p0 p1
        have hg : Calls Try.prog 21 #[.pointer (some ⟨b + 1, 0, none⟩), .int .u8 34] Y fun e w' => RbOut Y b (0, [zs T]) true e w' := by
          have h := get_any 34 b (b + 1) b L' Y HY.out.1 HQ.out.1 (by omega) (Nat.le_of_lt HY.out.1.blt)
          rw [show reg 34 = 34 from rfl, HQ.out.2.1, HQ.out.2.2] at h
          exact h
        go_wp2_with fail
        refine hg.mono ?_
        rintro e v1 ⟨⟨k1, a1, n1, c1⟩, rfl, he1, hb1⟩
        simp only [rv, sv]
        clear hg
        go_upto_region 14 with fail
        obtain ⟨v2, hv2⟩ : ∃ v2, v2 = v1.alloc (.cells #[.int .i64 k1, .slice a1 n1 c1] 33) := ⟨_, rfl⟩
        have hb2 : Below v1.heap.size v1 v2 := by rw [hv2]; exact one_below _ _
        have hr2 : RegAt v2 v1.heap.size (k1, a1, n1, c1) := by rw [hv2]; exact RegAt.new v1 (k1, a1, n1, c1)
        obtain ⟨u1, hu1⟩ : ∃ u1, u1 = v1.heap.size := ⟨_, rfl⟩
        rw [← hu1] at hr2
        rw [← hv2, ← hu1]
        have hel := he1.below hb2
        have HE := Lib.hid (HY.out.2.trans ((below_on hb1 hb2).mono HY.out.2.size))
        have p0 := hr2.c0
        have p1 : v2.cell? ⟨u1, 1, none⟩ = some (.slice a1 n1 c1) := hr2.c1
        clear hv2 hb2 hr2 hu1 he1 hb1
        have e7 : ((T : Int) : Int) + 1 ≤ 4096 := by have := HT.out; omega
        have e12 : IntKind.i64.wrap ((T : Int) + 1) = (T : Int) + 1 := by have := HT.out; rw [IntKind.wrap_i64]; omega
        have e8 : ((T : Int) : Int) < 4096 := by have := HT.out; omega
        have e9 : (T) < 4096 := by have := HT.out; omega
        have e10 : decide (((T : Int) : Int) + 1 ≤ 4096) = true := decide_eq_true e7
        have e11 : decide (((T : Int) : Int) < 4096) = true := decide_eq_true e8
        clear hfit
        have hn1 : n1 = 1 := hel.len.symm
        subst hn1
        obtain ⟨rb, ro, hra, hrc, hrn, _⟩ := Ss.read hel.2.1 0 (show 0 < [zs T].length from Nat.zero_lt_one)
        simp only at hra
        subst hra
        have hrc : v2.cell? ⟨rb, ro, none⟩ = some (.string (zs T)) := hrc
        have hkk : ((zs T).size : Int) = (T : Int) := by rw [zs_size]
        obtain ⟨SS, hSS⟩ : ∃ SS, SS = zs T := ⟨_, rfl⟩
        rw [← hSS] at hrc hkk
        clear hel hSS
        go_wp2
        go_ret
        exact ⟨rfl, HE.out⟩
      · have hy1 : (yank [] 34 (0, [zs T])).1 = 21 ∧ (gz (lk (yank [] 34 (0, [zs T])).2 34) = (0, []) ∧ (lk (yank [] 34 (0, [zs T])).2 34).isSome = false) := (by rw [yank_big34 [] 34 (0, [zs T]) rfl (by show ¬ tz [zs T] ≤ 4096; rw [tz_cons, tz_nil, zs_size]; omega)]; exact ⟨rfl, rfl, rfl⟩)
        have hy := yank_any 34 0 a9 1 1 (0, [zs T]) b (b + 1) b [] U HU.out.2.2.1 HU.out.1 ok_nil (by omega) (show tz [zs T] ≤ 50000 by rw [tz_cons, tz_nil, zs_size]; have := HT.out; omega) (Nat.le_of_lt HU.out.1.blt)
        have hok := ok_yank ok_nil 34 (0, [zs T])
        obtain ⟨Q, hQ⟩ : ∃ Q, Q = yank [] 34 (0, [zs T]) := ⟨_, rfl⟩
        rw [← hQ] at hy hy1 hok
        obtain ⟨E, L'⟩ := Q
        simp only at hy1 hok
        obtain ⟨rfl, hy2, hy3⟩ := hy1
        have hy : Calls Try.prog 14 #[.pointer (some ⟨b + 1, 0, none⟩), .int .u8 34, .agg #[.int .i64 0, .slice a9 1 1]] U fun e w' => Rg.Op U b (b + 1) b (21, L') e w' := hy
        have p0 := HU.out.2.1.c0
        have p1 : U.cell? ⟨g9, 1, none⟩ = some (.slice a9 1 1) := HU.out.2.1.c1
        have HQ := Lib.hid (And.intro hok (And.intro hy2 hy3))
        clear hQ hok hy2 hy3
        go_wp2_with fail
        refine hy.mono ?_
        rintro e Y ⟨rfl, hY1, hfY⟩
        simp only
        have HY := Lib.hid (And.intro hY1 (HU.out.2.2.2.trans (hfY.below HU.out.2.2.2.size (fun j e => by rw [e]; exact HF2.out.2.2.2))))
        clear hy hY1 hfY p0 p1
        have hg : Calls Try.prog 21 #[.pointer (some ⟨b + 1, 0, none⟩), .int .u8 34] Y fun e w' => RbOut Y b (0, []) false e w' := by
          have h := get_any 34 b (b + 1) b L' Y HY.out.1 HQ.out.1 (by omega) (Nat.le_of_lt HY.out.1.blt)
          rw [show reg 34 = 34 from rfl, HQ.out.2.1, HQ.out.2.2] at h
          exact h
        go_wp2_with fail
        refine hg.mono ?_
        rintro e v1 ⟨⟨k1, a1, n1, c1⟩, rfl, he1, hb1⟩
        simp only [rv, sv]
        clear hg
        go_upto_region 14 with fail
        obtain ⟨v2, hv2⟩ : ∃ v2, v2 = v1.alloc (.cells #[.int .i64 k1, .slice a1 n1 c1] 33) := ⟨_, rfl⟩
        have hb2 : Below v1.heap.size v1 v2 := by rw [hv2]; exact one_below _ _
        have hr2 : RegAt v2 v1.heap.size (k1, a1, n1, c1) := by rw [hv2]; exact RegAt.new v1 (k1, a1, n1, c1)
        obtain ⟨u1, hu1⟩ : ∃ u1, u1 = v1.heap.size := ⟨_, rfl⟩
        rw [← hu1] at hr2
        rw [← hv2, ← hu1]
        have hel := he1.below hb2
        have HE := Lib.hid (HY.out.2.trans ((below_on hb1 hb2).mono HY.out.2.size))
        have p0 := hr2.c0
        have p1 : v2.cell? ⟨u1, 1, none⟩ = some (.slice a1 n1 c1) := hr2.c1
        clear hv2 hb2 hr2 hu1 he1 hb1
        have e7 : ¬ ((T : Int) : Int) + 1 ≤ 4096 := by have := HT.out; omega
        have e12 : IntKind.i64.wrap ((T : Int) + 1) = (T : Int) + 1 := by have := HT.out; rw [IntKind.wrap_i64]; omega
        have e8 : ¬ ((T : Int) : Int) < 4096 := by have := HT.out; omega
        have e9 : ¬ (T) < 4096 := by have := HT.out; omega
        have e10 : decide (((T : Int) : Int) + 1 ≤ 4096) = false := decide_eq_false e7
        have e11 : decide (((T : Int) : Int) < 4096) = false := decide_eq_false e8
        clear hfit
        have hn1 : n1 = 0 := hel.len.symm
        subst hn1
        clear hel
        go_wp2
        go_ret
        exact ⟨rfl, HE.out⟩
    · clear HC
      by_cases hfit : T + 1 ≤ 4096
      · have hy1 : (yank [] 66 (0, [zs T])).1 = 0 ∧ (gz (lk (yank [] 66 (0, [zs T])).2 98) = (0, [zs T]) ∧ (lk (yank [] 66 (0, [zs T])).2 98).isSome = true) := (by obtain ⟨h1, h2⟩ := yank_letter [] 66 (0, [zs T]) (0, [zs T]) (by decide) (by decide) rfl (by show tz [zs T] ≤ 4096; rw [tz_cons, tz_nil, zs_size]; omega); have h2 : lk (yank [] 66 (0, [zs T])).2 98 = some (0, [zs T]) := h2; exact ⟨h1, by rw [h2]; exact ⟨rfl, rfl⟩⟩)
        have hy := yank_any 66 0 a9 1 1 (0, [zs T]) b (b + 1) b [] U HU.out.2.2.1 HU.out.1 ok_nil (by omega) (show tz [zs T] ≤ 50000 by rw [tz_cons, tz_nil, zs_size]; have := HT.out; omega) (Nat.le_of_lt HU.out.1.blt)
        have hok := ok_yank ok_nil 66 (0, [zs T])
        obtain ⟨Q, hQ⟩ : ∃ Q, Q = yank [] 66 (0, [zs T]) := ⟨_, rfl⟩
        rw [← hQ] at hy hy1 hok
        obtain ⟨E, L'⟩ := Q
        simp only at hy1 hok
        obtain ⟨rfl, hy2, hy3⟩ := hy1
        have hy : Calls Try.prog 14 #[.pointer (some ⟨b + 1, 0, none⟩), .int .u8 66, .agg #[.int .i64 0, .slice a9 1 1]] U fun e w' => Rg.Op U b (b + 1) b (0, L') e w' := hy
        have p0 := HU.out.2.1.c0
        have p1 : U.cell? ⟨g9, 1, none⟩ = some (.slice a9 1 1) := HU.out.2.1.c1
        have HQ := Lib.hid (And.intro hok (And.intro hy2 hy3))
        clear hQ hok hy2 hy3
        go_wp2_with fail
        refine hy.mono ?_
        rintro e Y ⟨rfl, hY1, hfY⟩
        simp only
        have HY := Lib.hid (And.intro hY1 (HU.out.2.2.2.trans (hfY.below HU.out.2.2.2.size (fun j e => by rw [e]; exact HF2.out.2.2.2))))
        clear hy hY1 hfY p0 p1
        have hg : Calls Try.prog 21 #[.pointer (some ⟨b + 1, 0, none⟩), .int .u8 66] Y fun e w' => RbOut Y b (0, [zs T]) true e w' := by
          have h := get_any 66 b (b + 1) b L' Y HY.out.1 HQ.out.1 (by omega) (Nat.le_of_lt HY.out.1.blt)
          rw [show reg 66 = 98 from rfl, HQ.out.2.1, HQ.out.2.2] at h
          exact h
        go_wp2_with fail
        refine hg.mono ?_
        rintro e v1 ⟨⟨k1, a1, n1, c1⟩, rfl, he1, hb1⟩
        simp only [rv, sv]
        clear hg
        go_upto_region 14 with fail
        obtain ⟨v2, hv2⟩ : ∃ v2, v2 = v1.alloc (.cells #[.int .i64 k1, .slice a1 n1 c1] 33) := ⟨_, rfl⟩
        have hb2 : Below v1.heap.size v1 v2 := by rw [hv2]; exact one_below _ _
        have hr2 : RegAt v2 v1.heap.size (k1, a1, n1, c1) := by rw [hv2]; exact RegAt.new v1 (k1, a1, n1, c1)
        obtain ⟨u1, hu1⟩ : ∃ u1, u1 = v1.heap.size := ⟨_, rfl⟩
        rw [← hu1] at hr2
        rw [← hv2, ← hu1]
        have hel := he1.below hb2
        have HE := Lib.hid (HY.out.2.trans ((below_on hb1 hb2).mono HY.out.2.size))
        have p0 := hr2.c0
        have p1 : v2.cell? ⟨u1, 1, none⟩ = some (.slice a1 n1 c1) := hr2.c1
        clear hv2 hb2 hr2 hu1 he1 hb1
        have e7 : ((T : Int) : Int) + 1 ≤ 4096 := by have := HT.out; omega
        have e12 : IntKind.i64.wrap ((T : Int) + 1) = (T : Int) + 1 := by have := HT.out; rw [IntKind.wrap_i64]; omega
        have e8 : ((T : Int) : Int) < 4096 := by have := HT.out; omega
        have e9 : (T) < 4096 := by have := HT.out; omega
        have e10 : decide (((T : Int) : Int) + 1 ≤ 4096) = true := decide_eq_true e7
        have e11 : decide (((T : Int) : Int) < 4096) = true := decide_eq_true e8
        clear hfit
        have hn1 : n1 = 1 := hel.len.symm
        subst hn1
        obtain ⟨rb, ro, hra, hrc, hrn, _⟩ := Ss.read hel.2.1 0 (show 0 < [zs T].length from Nat.zero_lt_one)
        simp only at hra
        subst hra
        have hrc : v2.cell? ⟨rb, ro, none⟩ = some (.string (zs T)) := hrc
        have hkk : ((zs T).size : Int) = (T : Int) := by rw [zs_size]
        obtain ⟨SS, hSS⟩ : ∃ SS, SS = zs T := ⟨_, rfl⟩
        rw [← hSS] at hrc hkk
        clear hel hSS
        go_wp2
        go_ret
        exact ⟨rfl, HE.out⟩
      · have hy1 : (yank [] 66 (0, [zs T])).1 = 21 ∧ (gz (lk (yank [] 66 (0, [zs T])).2 98) = (0, []) ∧ (lk (yank [] 66 (0, [zs T])).2 98).isSome = false) := (by rw [yank_big [] 66 (0, [zs T]) (0, [zs T]) (by decide) (by decide) rfl (by show ¬ tz [zs T] ≤ 4096; rw [tz_cons, tz_nil, zs_size]; omega)]; exact ⟨rfl, rfl, rfl⟩)
        have hy := yank_any 66 0 a9 1 1 (0, [zs T]) b (b + 1) b [] U HU.out.2.2.1 HU.out.1 ok_nil (by omega) (show tz [zs T] ≤ 50000 by rw [tz_cons, tz_nil, zs_size]; have := HT.out; omega) (Nat.le_of_lt HU.out.1.blt)
        have hok := ok_yank ok_nil 66 (0, [zs T])
        obtain ⟨Q, hQ⟩ : ∃ Q, Q = yank [] 66 (0, [zs T]) := ⟨_, rfl⟩
        rw [← hQ] at hy hy1 hok
        obtain ⟨E, L'⟩ := Q
        simp only at hy1 hok
        obtain ⟨rfl, hy2, hy3⟩ := hy1
        have hy : Calls Try.prog 14 #[.pointer (some ⟨b + 1, 0, none⟩), .int .u8 66, .agg #[.int .i64 0, .slice a9 1 1]] U fun e w' => Rg.Op U b (b + 1) b (21, L') e w' := hy
        have p0 := HU.out.2.1.c0
        have p1 : U.cell? ⟨g9, 1, none⟩ = some (.slice a9 1 1) := HU.out.2.1.c1
        have HQ := Lib.hid (And.intro hok (And.intro hy2 hy3))
        clear hQ hok hy2 hy3
        go_wp2_with fail
        refine hy.mono ?_
        rintro e Y ⟨rfl, hY1, hfY⟩
        simp only
        have HY := Lib.hid (And.intro hY1 (HU.out.2.2.2.trans (hfY.below HU.out.2.2.2.size (fun j e => by rw [e]; exact HF2.out.2.2.2))))
        clear hy hY1 hfY p0 p1
        have hg : Calls Try.prog 21 #[.pointer (some ⟨b + 1, 0, none⟩), .int .u8 66] Y fun e w' => RbOut Y b (0, []) false e w' := by
          have h := get_any 66 b (b + 1) b L' Y HY.out.1 HQ.out.1 (by omega) (Nat.le_of_lt HY.out.1.blt)
          rw [show reg 66 = 98 from rfl, HQ.out.2.1, HQ.out.2.2] at h
          exact h
        go_wp2_with fail
        refine hg.mono ?_
        rintro e v1 ⟨⟨k1, a1, n1, c1⟩, rfl, he1, hb1⟩
        simp only [rv, sv]
        clear hg
        go_upto_region 14 with fail
        obtain ⟨v2, hv2⟩ : ∃ v2, v2 = v1.alloc (.cells #[.int .i64 k1, .slice a1 n1 c1] 33) := ⟨_, rfl⟩
        have hb2 : Below v1.heap.size v1 v2 := by rw [hv2]; exact one_below _ _
        have hr2 : RegAt v2 v1.heap.size (k1, a1, n1, c1) := by rw [hv2]; exact RegAt.new v1 (k1, a1, n1, c1)
        obtain ⟨u1, hu1⟩ : ∃ u1, u1 = v1.heap.size := ⟨_, rfl⟩
        rw [← hu1] at hr2
        rw [← hv2, ← hu1]
        have hel := he1.below hb2
        have HE := Lib.hid (HY.out.2.trans ((below_on hb1 hb2).mono HY.out.2.size))
        have p0 := hr2.c0
        have p1 : v2.cell? ⟨u1, 1, none⟩ = some (.slice a1 n1 c1) := hr2.c1
        clear hv2 hb2 hr2 hu1 he1 hb1
        have e7 : ¬ ((T : Int) : Int) + 1 ≤ 4096 := by have := HT.out; omega
        have e12 : IntKind.i64.wrap ((T : Int) + 1) = (T : Int) + 1 := by have := HT.out; rw [IntKind.wrap_i64]; omega
        have e8 : ¬ ((T : Int) : Int) < 4096 := by have := HT.out; omega
        have e9 : ¬ (T) < 4096 := by have := HT.out; omega
        have e10 : decide (((T : Int) : Int) + 1 ≤ 4096) = false := decide_eq_false e7
        have e11 : decide (((T : Int) : Int) < 4096) = false := decide_eq_false e8
        clear hfit
        have hn1 : n1 = 0 := hel.len.symm
        subst hn1
        clear hel
        go_wp2
        go_ret
        exact ⟨rfl, HE.out⟩
  | true =>
    have hxy : El (U.alloc (.cells #[.string ⟨#[120, 121]⟩] 9)) b (0, some ⟨U.heap.size, 0, none⟩, 1, 1) gxy := El.lit U b 0 [⟨#[120, 121]⟩] 1 rfl (by simp [maxLen])
    have hp : Calls Try.prog 16 #[.pointer (some ⟨b + 1, 0, none⟩), .int .u8 97, .agg #[.int .i64 0, .slice (some ⟨U.heap.size, 0, none⟩) 1 1]] (U.alloc (.cells #[.string ⟨#[120, 121]⟩] 9)) fun e w' => Rg.Op (U.alloc (.cells #[.string ⟨#[120, 121]⟩] 9)) b (b + 1) b (0, ins [] 97 gxy) e w' := by
      have h := put_any 97 0 (some ⟨U.heap.size, 0, none⟩) 1 1 gxy b (b + 1) b [] _ hxy (HU.out.1.below (one_below _ _)) ok_nil (by omega) (by decide) (Nat.le_of_lt (HU.out.1.below (one_below U (.cells #[.string ⟨#[120, 121]⟩] 9))).blt)
      rw [show put [] 97 gxy = (0, ins [] 97 gxy) from rfl] at h
      exact h
    have v3 : IntKind.i64.wrap ((T : Int) + 2) = (T : Int) + 2 := by have := HT.out; rw [IntKind.wrap_i64]; omega
    go_wp2_with fail
    refine hp.mono ?_
    rintro e Z ⟨rfl, hZ1, hfZ⟩
    simp only
    have hfU := (Fr.ofBelow (one_below U (.cells #[.string ⟨#[120, 121]⟩] 9)) (fun j => j = b)).trans hfZ
    have HZ := Lib.hid (And.intro hZ1 (And.intro (HU.out.2.1.fr hfU (HU.out.1.reg_ne HU.out.2.1)) (And.intro (HU.out.2.2.1.fr hfU HU.out.1.ro) (HU.out.2.2.2.trans (hfU.below HU.out.2.2.2.size (fun j e => by rw [e]; exact HF2.out.2.2.2))))))
    clear hp hZ1 hfZ hfU hxy HC
    go_upto_region 12 with fail
    by_cases hfit : T + 3 ≤ 4096
    · have hy1 : (yank (ins [] 97 gxy) 65 (0, [zs T])).1 = 0 ∧ (gz (lk (yank (ins [] 97 gxy) 65 (0, [zs T])).2 97) = (0, [(⟨#[120, 121]⟩ : ByteArray) ++ zs T]) ∧ (lk (yank (ins [] 97 gxy) 65 (0, [zs T])).2 97).isSome = true) := (by obtain ⟨h1, h2⟩ := yank_letter (ins [] 97 gxy) 65 (0, [zs T]) (0, [(⟨#[120, 121]⟩ : ByteArray) ++ zs T]) (by decide) (by decide) rfl (by show tz [(⟨#[120, 121]⟩ : ByteArray) ++ zs T] ≤ 4096; rw [tz_cons, tz_nil, ByteArray.size_append, zs_size]; show 2 + T + 1 + 0 ≤ 4096; omega); have h2 : lk (yank (ins [] 97 gxy) 65 (0, [zs T])).2 97 = some (0, [(⟨#[120, 121]⟩ : ByteArray) ++ zs T]) := h2; exact ⟨h1, by rw [h2]; exact ⟨rfl, rfl⟩⟩)
      have hy := yank_any 65 0 a9 1 1 (0, [zs T]) b (b + 1) b (ins [] 97 gxy) Z HZ.out.2.2.1 HZ.out.1 ok_xy (by omega) (show tz [zs T] ≤ 50000 by rw [tz_cons, tz_nil, zs_size]; have := HT.out; omega) (Nat.le_of_lt HZ.out.1.blt)
      have hok := ok_yank ok_xy 65 (0, [zs T])
      obtain ⟨Q, hQ⟩ : ∃ Q, Q = yank (ins [] 97 gxy) 65 (0, [zs T]) := ⟨_, rfl⟩
      rw [← hQ] at hy hy1 hok
      obtain ⟨E, L'⟩ := Q
      simp only at hy1 hok
      obtain ⟨rfl, hy2, hy3⟩ := hy1
      have hy : Calls Try.prog 14 #[.pointer (some ⟨b + 1, 0, none⟩), .int .u8 65, .agg #[.int .i64 0, .slice a9 1 1]] Z fun e w' => Rg.Op Z b (b + 1) b (0, L') e w' := hy
      have p0 := HZ.out.2.1.c0
      have p1 : Z.cell? ⟨g9, 1, none⟩ = some (.slice a9 1 1) := HZ.out.2.1.c1
      have HQ := Lib.hid (And.intro hok (And.intro hy2 hy3))
      clear hQ hok hy2 hy3
      go_wp2_with fail
      refine hy.mono ?_
      rintro e Y ⟨rfl, hY1, hfY⟩
      simp only
      have HY := Lib.hid (And.intro hY1 (HZ.out.2.2.2.trans (hfY.below HZ.out.2.2.2.size (fun j e => by rw [e]; exact HF2.out.2.2.2))))
      clear hy hY1 hfY p0 p1
      have hg : Calls Try.prog 21 #[.pointer (some ⟨b + 1, 0, none⟩), .int .u8 65] Y fun e w' => RbOut Y b (0, [(⟨#[120, 121]⟩ : ByteArray) ++ zs T]) true e w' := by
        have h := get_any 65 b (b + 1) b L' Y HY.out.1 HQ.out.1 (by omega) (Nat.le_of_lt HY.out.1.blt)
        rw [show reg 65 = 97 from rfl, HQ.out.2.1, HQ.out.2.2] at h
        exact h
      go_wp2_with fail
      refine hg.mono ?_
      rintro e v1 ⟨⟨k1, a1, n1, c1⟩, rfl, he1, hb1⟩
      simp only [rv, sv]
      clear hg
      go_upto_region 14 with fail
      obtain ⟨v2, hv2⟩ : ∃ v2, v2 = v1.alloc (.cells #[.int .i64 k1, .slice a1 n1 c1] 33) := ⟨_, rfl⟩
      have hb2 : Below v1.heap.size v1 v2 := by rw [hv2]; exact one_below _ _
      have hr2 : RegAt v2 v1.heap.size (k1, a1, n1, c1) := by rw [hv2]; exact RegAt.new v1 (k1, a1, n1, c1)
      obtain ⟨u1, hu1⟩ : ∃ u1, u1 = v1.heap.size := ⟨_, rfl⟩
      rw [← hu1] at hr2
      rw [← hv2, ← hu1]
      have hel := he1.below hb2
      have HE := Lib.hid (HY.out.2.trans ((below_on hb1 hb2).mono HY.out.2.size))
      have p0 := hr2.c0
      have p1 : v2.cell? ⟨u1, 1, none⟩ = some (.slice a1 n1 c1) := hr2.c1
      clear hv2 hb2 hr2 hu1 he1 hb1
      have e7 : (((T : Int) + 2) : Int) + 1 ≤ 4096 := by have := HT.out; omega
      have e12 : IntKind.i64.wrap (((T : Int) + 2) + 1) = ((T : Int) + 2) + 1 := by have := HT.out; rw [IntKind.wrap_i64]; omega
      have e8 : (((T : Int) + 2) : Int) < 4096 := by have := HT.out; omega
      have e9 : (T + 2) < 4096 := by have := HT.out; omega
      have e10 : decide ((((T : Int) + 2) : Int) + 1 ≤ 4096) = true := decide_eq_true e7
      have e11 : decide ((((T : Int) + 2) : Int) < 4096) = true := decide_eq_true e8
      clear hfit
      have hn1 : n1 = 1 := hel.len.symm
      subst hn1
      obtain ⟨rb, ro, hra, hrc, hrn, _⟩ := Ss.read hel.2.1 0 (show 0 < [(⟨#[120, 121]⟩ : ByteArray) ++ zs T].length from Nat.zero_lt_one)
      simp only at hra
      subst hra
      have hrc : v2.cell? ⟨rb, ro, none⟩ = some (.string ((⟨#[120, 121]⟩ : ByteArray) ++ zs T)) := hrc
      have hkk : (((⟨#[120, 121]⟩ : ByteArray) ++ zs T).size : Int) = ((T : Int) + 2) := by rw [ByteArray.size_append, zs_size]; show (((2 + T : Nat)) : Int) = _; omega
      obtain ⟨SS, hSS⟩ : ∃ SS, SS = (⟨#[120, 121]⟩ : ByteArray) ++ zs T := ⟨_, rfl⟩
      rw [← hSS] at hrc hkk
      clear hel hSS
      go_wp2
      go_ret
      exact ⟨rfl, HE.out⟩
    · have hy1 : (yank (ins [] 97 gxy) 65 (0, [zs T])).1 = 21 ∧ (gz (lk (yank (ins [] 97 gxy) 65 (0, [zs T])).2 97) = gxy ∧ (lk (yank (ins [] 97 gxy) 65 (0, [zs T])).2 97).isSome = true) := (by rw [yank_big (ins [] 97 gxy) 65 (0, [zs T]) (0, [(⟨#[120, 121]⟩ : ByteArray) ++ zs T]) (by decide) (by decide) rfl (by show ¬ tz [(⟨#[120, 121]⟩ : ByteArray) ++ zs T] ≤ 4096; rw [tz_cons, tz_nil, ByteArray.size_append, zs_size]; show ¬ 2 + T + 1 + 0 ≤ 4096; omega)]; exact ⟨rfl, rfl, rfl⟩)
      have hy := yank_any 65 0 a9 1 1 (0, [zs T]) b (b + 1) b (ins [] 97 gxy) Z HZ.out.2.2.1 HZ.out.1 ok_xy (by omega) (show tz [zs T] ≤ 50000 by rw [tz_cons, tz_nil, zs_size]; have := HT.out; omega) (Nat.le_of_lt HZ.out.1.blt)
      have hok := ok_yank ok_xy 65 (0, [zs T])
      obtain ⟨Q, hQ⟩ : ∃ Q, Q = yank (ins [] 97 gxy) 65 (0, [zs T]) := ⟨_, rfl⟩
      rw [← hQ] at hy hy1 hok
      obtain ⟨E, L'⟩ := Q
      simp only at hy1 hok
      obtain ⟨rfl, hy2, hy3⟩ := hy1
      have hy : Calls Try.prog 14 #[.pointer (some ⟨b + 1, 0, none⟩), .int .u8 65, .agg #[.int .i64 0, .slice a9 1 1]] Z fun e w' => Rg.Op Z b (b + 1) b (21, L') e w' := hy
      have p0 := HZ.out.2.1.c0
      have p1 : Z.cell? ⟨g9, 1, none⟩ = some (.slice a9 1 1) := HZ.out.2.1.c1
      have HQ := Lib.hid (And.intro hok (And.intro hy2 hy3))
      clear hQ hok hy2 hy3
      go_wp2_with fail
      refine hy.mono ?_
      rintro e Y ⟨rfl, hY1, hfY⟩
      simp only
      have HY := Lib.hid (And.intro hY1 (HZ.out.2.2.2.trans (hfY.below HZ.out.2.2.2.size (fun j e => by rw [e]; exact HF2.out.2.2.2))))
      clear hy hY1 hfY p0 p1
      have hg : Calls Try.prog 21 #[.pointer (some ⟨b + 1, 0, none⟩), .int .u8 65] Y fun e w' => RbOut Y b gxy true e w' := by
        have h := get_any 65 b (b + 1) b L' Y HY.out.1 HQ.out.1 (by omega) (Nat.le_of_lt HY.out.1.blt)
        rw [show reg 65 = 97 from rfl, HQ.out.2.1, HQ.out.2.2] at h
        exact h
      go_wp2_with fail
      refine hg.mono ?_
      rintro e v1 ⟨⟨k1, a1, n1, c1⟩, rfl, he1, hb1⟩
      simp only [rv, sv]
      clear hg
      go_upto_region 14 with fail
      obtain ⟨v2, hv2⟩ : ∃ v2, v2 = v1.alloc (.cells #[.int .i64 k1, .slice a1 n1 c1] 33) := ⟨_, rfl⟩
      have hb2 : Below v1.heap.size v1 v2 := by rw [hv2]; exact one_below _ _
      have hr2 : RegAt v2 v1.heap.size (k1, a1, n1, c1) := by rw [hv2]; exact RegAt.new v1 (k1, a1, n1, c1)
      obtain ⟨u1, hu1⟩ : ∃ u1, u1 = v1.heap.size := ⟨_, rfl⟩
      rw [← hu1] at hr2
      rw [← hv2, ← hu1]
      have hel := he1.below hb2
      have HE := Lib.hid (HY.out.2.trans ((below_on hb1 hb2).mono HY.out.2.size))
      have p0 := hr2.c0
      have p1 : v2.cell? ⟨u1, 1, none⟩ = some (.slice a1 n1 c1) := hr2.c1
      clear hv2 hb2 hr2 hu1 he1 hb1
      have e7 : ¬ (((T : Int) + 2) : Int) + 1 ≤ 4096 := by have := HT.out; omega
      have e12 : IntKind.i64.wrap (((T : Int) + 2) + 1) = ((T : Int) + 2) + 1 := by have := HT.out; rw [IntKind.wrap_i64]; omega
      have e8 : ¬ (((T : Int) + 2) : Int) < 4096 := by have := HT.out; omega
      have e9 : ¬ (T + 2) < 4096 := by have := HT.out; omega
      have e10 : decide ((((T : Int) + 2) : Int) + 1 ≤ 4096) = false := decide_eq_false e7
      have e11 : decide ((((T : Int) + 2) : Int) < 4096) = false := decide_eq_false e8
      clear hfit
      have hSs := hel.2.1
      simp only at hSs
      have hst : ∀ W, Below v2.heap.size v2 W → Calls Try.prog 27 #[.slice a1 n1 c1, .slice (some ⟨v2.heap.size, 0, none⟩) 1 1] (v2.alloc (.cells #[.string ⟨#[120, 121]⟩] 9)) fun e w' => e = .returned (.bool true) ∧ Below v2.heap.size v2 w' := fun W hW => by
        have h := strings_any a1 n1 c1 gxy.2 (some ⟨v2.heap.size, 0, none⟩) 1 1 [⟨#[120, 121]⟩] (v2.alloc (.cells #[.string ⟨#[120, 121]⟩] 9)) (SrcV.below hSs (one_below _ _)) (SrcV.lit v2 #[.string ⟨#[120, 121]⟩] ES 1 rfl (by simp [Value.oneCell']) (by simp [maxLen]))
        refine h.mono ?_
        rintro e w' ⟨rfl, m, rfl⟩
        rw [show decide (gxy.2 = [(⟨#[120, 121]⟩ : ByteArray)]) = true from decide_eq_true rfl]
        exact ⟨rfl, below_on (one_below _ _) ⟨rfl, rfl, rfl, Nat.le_refl _, fun k _ => rfl⟩⟩
      have hst := hst v2 (Below.refl _ _)
      clear hel hSs
      go_wp2_with fail
      refine hst.mono ?_
      rintro e v9 ⟨rfl, hb9⟩
      have HE := Lib.hid (HE.out.trans (hb9.mono HE.out.size))
      clear hst hb9
      go_wp2
      go_ret
      exact ⟨rfl, HE.out⟩
end Go.Proofs.Ytgfajagajiofnaa.RLi
