/-
  The law RegsShift, walked.
-/
import Derived.Test.YtgfajagajiofnaaRo
import Derived.Test.YtgfajagajiofnaaRs
import Derived.Deep.CutRange
import Derived.Deep.CutBlock
set_option linter.unusedVariables false
set_option linter.unusedSimpArgs false
set_option maxRecDepth 100000
namespace Go.Proofs.Ytgfajagajiofnaa.RSh
open Go Go.RowKit Go.Proofs.Ytgfajagajiofnaa.Vk Go.Proofs.Ytgfajagajiofnaa.Str Go.Proofs.Ytgfajagajiofnaa.Ln Go.Proofs.Ytgfajagajiofnaa.Cl Go.Proofs.Ytgfajagajiofnaa.Rl Go.Proofs.Ytgfajagajiofnaa.Rg
attribute [local go_sem] Oper.semAt_some

theorem reg_ne_m {w : World} {B m b g : Nat} {L : ML G} {x : R} (h : Fls w B m b L) (hr : RegAt w g x) : ¬ m = g := fun e => by
  subst e
  have h1 := h.1
  unfold RegAt at hr
  rw [h1] at hr
  simp only [Option.some.injEq, Obj.cells.injEq] at hr
  exact absurd hr.2.1 (by decide)
theorem u8_of {l : Int} (h : (Lit.int .u8 l).wf = true) : 0 ≤ l ∧ l ≤ 255 := by simpa [Lit.wf, show IntKind.u8.min = 0 from rfl, show IntKind.u8.max = 255 from rfl] using h
/-- What a cut with no name leaves. -/
theorem cut_plain (L : ML G) (c : Nat) (g : G) (hc : reg c = 34) (hg : tz g.2 ≤ 4096) : (cut L c g).1 = 0 ∧ lk (cut L c g).2 34 = some g ∧ lk (cut L c g).2 48 = lk L 48 := by
  unfold cut
  rw [if_pos hc, if_pos hg]
  refine ⟨rfl, ?_, ?_⟩
  · show lk (if _ then _ else _) 34 = _
    split
    · rw [look_ins, if_neg (by omega), look_ins, if_pos rfl]
    · rw [look_ins, if_neg (by omega), look_dn34]
  · show lk (if _ then _ else _) 48 = _
    split
    · rw [look_ins, if_neg (by omega), look_ins, if_neg (by omega)]
    · rw [look_ins, if_neg (by omega), look_dn _ 8 (by omega), if_neg (by omega), look_ins, if_neg (by omega)]
theorem yank_plain (L : ML G) (c : Nat) (g : G) (hc : reg c = 34) (hg : tz g.2 ≤ 4096) : (yank L c g).1 = 0 ∧ lk (yank L c g).2 34 = some g ∧ lk (yank L c g).2 48 = some g := by
  unfold yank
  rw [if_pos hc, if_pos hg]
  exact ⟨rfl, by show lk (ins (ins L 34 g) 48 g) 34 = _; rw [look_ins, if_neg (by omega), look_ins, if_pos rfl], by show lk (ins (ins L 34 g) 48 g) 48 = _; rw [look_ins, if_pos rfl]⟩
/-- A text of two bytes that have just been laid. -/
theorem conv_two (W : World) (x : Int) (c d : Nat) (hx : x = (c : Int)) : ∃ s : ByteArray, s.size = 2 ∧ s.data.toList = [UInt8.ofNat c, UInt8.ofNat d] ∧ (convert 27 9 (.slice (some ⟨W.heap.size, 0, none⟩) 2 2)).run Try.prog (W.alloc (.cells #[.int .u8 x, .int .u8 (d : Int)] 5)) = .ok (.string s) (W.alloc (.cells #[.int .u8 x, .int .u8 (d : Int)] 5)) := by
  subst hx
  have h := conv_names (l := [c, d]) (SrcV.u8 W [c, d] 2 rfl (by omega))
  exact ⟨strN [c, d], rfl, rfl, h⟩
/-- What stands in the registers behind some cuts. -/
def Sh (L : ML G) (big : List ByteArray) (st : Option ByteArray) : Prop := Ok L ∧ (∀ q, q < 9 → lk L (49 + q) = (big[q]?).map fun s => ((1 : Int), [s])) ∧ lk L 45 = st.map fun s => ((0 : Int), [s])
theorem Sh.nil : Sh [] [] none := ⟨ok_nil, fun q _ => by simp [lk], rfl⟩
theorem Sh.line {L : ML G} {big : List ByteArray} {st : Option ByteArray} (h : Sh L big st) (s : ByteArray) (hs : s.size = 2) : (cut L 0 (1, [s])).1 = 0 ∧ Sh (cut L 0 (1, [s])).2 (s :: big) st := by
  have ht : tz ((1 : Int), [s]).2 ≤ 4096 := by show tz [s] ≤ 4096; rw [tz_cons, tz_nil, hs]; omega
  have hok := ok_cut h.1 0 (1, [s])
  have hc : cut L 0 (1, [s]) = (0, ins (dn (ins L 34 (1, [s])) 8) 49 (1, [s])) := by
    unfold cut
    rw [if_pos (show reg 0 = 34 from rfl), if_pos ht, if_neg (fun e => e.1 rfl)]
  rw [hc] at hok ⊢
  refine ⟨rfl, hok, fun q hq => ?_, ?_⟩
  · show lk (ins (dn (ins L 34 (1, [s])) 8) 49 (1, [s])) (49 + q) = _
    rw [look_ins]
    cases q with
    | zero => rw [if_pos rfl]; rfl
    | succ q =>
      rw [if_neg (by omega), look_dn _ 8 (by omega), if_pos (by omega), look_ins, if_neg (by omega), look_ins, if_neg (by omega), show 49 + (q + 1) - 1 = 49 + q by omega, h.2.1 q (by omega), h.2.1 (q + 1) hq]
      show _ = (big[q]?).map _
      cases hb : big[q]? with
      | some x => rfl
      | none =>
        have h1 : big[q + 1]? = none := by
          rw [List.getElem?_eq_none_iff] at hb ⊢
          omega
        rw [h1]
        rfl
  · show lk (ins (dn (ins L 34 (1, [s])) 8) 49 (1, [s])) 45 = _
    rw [look_ins, if_neg (by omega), look_dn _ 8 (by omega), if_neg (by omega), look_ins, if_neg (by omega)]
    exact h.2.2
theorem Sh.small {L : ML G} {big : List ByteArray} {st : Option ByteArray} (h : Sh L big st) (s : ByteArray) (hs : s.size = 2) : (cut L 0 (0, [s])).1 = 0 ∧ Sh (cut L 0 (0, [s])).2 big (some s) := by
  have ht : tz ((0 : Int), [s]).2 ≤ 4096 := by show tz [s] ≤ 4096; rw [tz_cons, tz_nil, hs]; omega
  have hok := ok_cut h.1 0 (0, [s])
  have hc : cut L 0 (0, [s]) = (0, ins (ins L 34 (0, [s])) 45 (0, [s])) := by
    unfold cut
    rw [if_pos (show reg 0 = 34 from rfl), if_pos ht, if_pos ⟨fun e => absurd (show (0 : Int) = 1 from e) (by decide), Nat.le_refl _⟩]
  rw [hc] at hok ⊢
  refine ⟨rfl, hok, fun q hq => ?_, ?_⟩
  · show lk (ins (ins L 34 (0, [s])) 45 (0, [s])) (49 + q) = _
    rw [look_ins, if_neg (by omega), look_ins, if_neg (by omega)]
    exact h.2.1 q hq
  · show lk (ins (ins L 34 (0, [s])) 45 (0, [s])) 45 = _
    rw [look_ins, if_pos rfl]
    rfl
/-- The last small one's text. -/
def la (st : Option ByteArray) : ByteArray := st.getD ⟨#[]⟩
theorem El.ss {w : World} {B : Nat} {k : Int} {a : Option Addr} {n c : Nat} {g : G} (h : El w B (k, a, n, c) g) : Ss w a n c g.2 := h.2.1
theorem strings_t {w : World} {a : Option Addr} {n c : Nat} {a' : Option Addr} {n' c' : Nat} {x : List ByteArray} (h : Ss w a n c x) (h' : Ss w a' n' c' x) :
    Calls Try.prog 27 #[.slice a n c, .slice a' n' c'] w fun e w' => e = .returned (.bool true) ∧ Below w.heap.size w w' :=
  (strings_any a n c x a' n' c' x w h h').mono fun e w' ⟨h1, m, h2⟩ => ⟨by rw [h1, decide_eq_true rfl], by rw [h2]; exact ⟨rfl, rfl, rfl, Nat.le_refl _, fun k _ => rfl⟩⟩

set_option maxHeartbeats 4000000 in
theorem walk (nm : Int) (ba : Option Addr) (N cp : Nat) (bs : List Bool) (w : World) (wn : (Lit.int .u8 nm).wf = true) (hb : SrcV w 1 (.slice ba N cp) N (bs.map .bool)) :
    Calls Try.prog 5 #[.int .u8 nm, .slice ba N cp] w fun e w' => e = .returned (.bool true) ∧ Below w.heap.size w w' := by
  obtain ⟨i0, hi0, hz0, hz1, hz2⟩ := info_parts infoS
  have hk := known_any w
  have hnm := u8_of wn
  obtain ⟨d, hd⟩ : ∃ d, d = nm.toNat := ⟨_, rfl⟩
  obtain rfl : nm = (d : Int) := by omega
  have hd256 : d < 256 := by omega
  have HBS := Lib.hid (And.intro hb (show bs.length = N by have := hb.1; simpa using this))
  have hN63 : N ≤ 9223372036854775807 := hb.2.2.1
  clear hnm hd wn hb
  go_enter Try.func5, Try.ntmps5
  go_wp2_with fail
  refine hk.mono ?_
  rintro e w1 ⟨rfl, hb1⟩
  have HB := Lib.hid hb1
  clear hk hb1
  by_cases h30 : 30 < N
  · go_wp2
    go_ret
    exact ⟨rfl, HB.out⟩
  go_wp2_with fail
  refine (new_any w1 w1.heap.size (Nat.le_refl _)).mono ?_
  rintro e w2 ⟨rfl, hm2, hb2⟩
  obtain ⟨b, hbq⟩ : ∃ b, b = w1.heap.size := ⟨_, rfl⟩
  rw [← hbq] at hm2
  rw [← hbq]
  have HF2 := Lib.hid (And.intro hm2 (And.intro (below_on HB.out hb2) (And.intro (show b ≤ w2.heap.size by rw [hbq]; exact hb2.size) (show w.heap.size ≤ b by rw [hbq]; exact HB.out.size))))
  clear hbq hm2 hb2
  go_wp2
  go_loopw [6, 7, 8] (fun u v i wr => ∃ (k M : Nat) (a : Option Addr) (c : Nat) (A : ByteArray), k ≤ N ∧ M ≤ k ∧ i = .int .i64 k ∧ u = .slice a M c ∧ v = .string A ∧ Hid (∃ (L : ML G) (big : List ByteArray) (st : Option ByteArray), Fls wr b (b + 1) b L ∧ Sh L big st ∧ El wr b (0, a, M, c) (0, big) ∧ A = la st ∧ (∀ s, st = some s → s.size = 2) ∧ Below w.heap.size w wr)) (fun _ _ i _ => N - (RowKit.intOf i).toNat)
  case atStart => exact ⟨0, 0, none, 0, ⟨#[]⟩, Nat.zero_le _, Nat.zero_le _, rfl, rfl, rfl, [], [], none, HF2.out.1, Sh.nil, El.nil _ _, rfl, (fun s h => by cases h), HF2.out.2.1⟩
  case round =>
    obtain ⟨k, M, a, c, A, hk, hMk, rfl, rfl, rfl, HR⟩ := hrel
    by_cases hkN : k < N
    · have hkb : k < bs.length := by have := HBS.out.2; omega
      obtain ⟨L, big, st, hf, hsh, hbig, hA, hst, hbw⟩ := HR.out
      obtain ⟨sb, so, hba, hcb, hcp, _⟩ := (SrcV.below HBS.out.1 (hbw.mono (Nat.le_refl _))).at (j := k) (u := .bool bs[k]) (by simp [hkb])
      subst hba
      obtain ⟨bq, hbq⟩ : ∃ bq, bq = bs[k] := ⟨_, rfl⟩
      rw [← hbq] at hcb
      clear hbq
      obtain ⟨sg, hsg, _, hcv⟩ := conv_two wr (97 + (k : Int) % 26) (97 + k % 26) d (by omega)
      go_upto_region 12 with fail
      obtain ⟨v1, hv1⟩ : ∃ v1, v1 = wr.alloc (.cells #[.int .u8 (97 + (k : Int) % 26), .int .u8 (d : Int)] 5) := ⟨_, rfl⟩
      have hbv1 : Below wr.heap.size wr v1 := by rw [hv1]; exact one_below _ _
      rw [← hv1]
      clear hcv hv1
      have hcb := cell_later hbv1 hcb
      obtain ⟨x1, x2, x3, x4⟩ := one_reg v1 b 1 sg
      go_upto_region 13 with fail
      obtain ⟨V, hV⟩ : ∃ V, V = rg1 v1 1 sg := ⟨_, rfl⟩
      rw [← hV] at x1 x2 x3 x4
      have hV' : V = (v1.alloc (.cells #[.string sg] 9)).alloc (.cells #[.int .i64 1, .slice (some ⟨v1.heap.size, 0, none⟩) 1 1] 33) := hV
      rw [← hV']
      obtain ⟨a9, ha9⟩ : ∃ a9 : Option Addr, a9 = some ⟨v1.heap.size, 0, none⟩ := ⟨_, rfl⟩
      have hbg9 : b ≤ v1.heap.size + 1 ∧ w.heap.size ≤ v1.heap.size + 1 := by have := hbv1.size; have := hf.blt; have := hbw.size; omega
      obtain ⟨g9, hg9⟩ : ∃ g9, g9 = v1.heap.size + 1 := ⟨_, rfl⟩
      rw [← ha9] at x2 x3
      rw [← hg9] at x2 hbg9
      rw [← hg9, ← ha9]
      have hbV := below_on hbv1 x1
      have hcb := cell_later x1 hcb
      have HV := Lib.hid (And.intro (hf.below hbV) (And.intro x2 (And.intro x3 (And.intro (hbig.below hbV) (And.intro (below_on hbw hbV) (And.intro hbg9 (And.intro hsh (And.intro hA (And.intro hst hsg)))))))))
      clear hV hV' ha9 hg9 x1 x2 x3 x4 hbv1 hbV hf hsh hbig hA hst hbw hbg9 HR
      cases bq with
      | true =>
        have m0 := HV.out.2.1.c0
        have m1 : V.cell? ⟨g9, 1, none⟩ = some (.slice a9 1 1) := HV.out.2.1.c1
        have z := HV.out.2.1.z
        have hfX := (Fr.refl (fun j => j = g9) V).setCell (p := ⟨g9, 0, none⟩) (fun _ => rfl) (.int .i64 0)
        have hro : ∀ j, j = g9 → ¬ Ro V b j := fun j e => by subst e; exact HV.out.2.1.ro HV.out.2.2.2.2.2.1.1
        have hX1 := HV.out.1.fr hfX (fun e => reg_ne_m HV.out.1 HV.out.2.1 e) (fun e => HV.out.1.reg_ne HV.out.2.1 e.symm) hro
        have hX2 : RegAt (V.setCell ⟨g9, 0, none⟩ (.int .i64 0)) g9 (0, a9, 1, 1) := (heap_setCell_same V g9 0 _ _ (.int .i64 0) HV.out.2.1).trans (by simp)
        have hX3 := HV.out.2.2.1.fr hfX hro
        have hX3 : El (V.setCell ⟨g9, 0, none⟩ (.int .i64 0)) b (0, a9, 1, 1) (0, [sg]) := ⟨rfl, hX3.2.1, hX3.2.2⟩
        have hX4 : Below w.heap.size w (V.setCell ⟨g9, 0, none⟩ (.int .i64 0)) := HV.out.2.2.2.2.1.setCell (p := ⟨g9, 0, none⟩) HV.out.2.2.2.2.2.1.2 (.int .i64 0)
        have hX5 := HV.out.2.2.2.1.fr hfX hro
        go_upto_region 17 with fail
        obtain ⟨X, hX⟩ : ∃ X, X = V.setCell ⟨g9, 0, none⟩ (.int .i64 0) := ⟨_, rfl⟩
        rw [← hX] at hX1 hX2 hX3 hX4 hX5
        rw [← hX]
        clear hX m0 m1 z hfX hro
        obtain ⟨y1, y2⟩ := HV.out.2.2.2.2.2.2.1.small sg HV.out.2.2.2.2.2.2.2.2.2
        have hy : Calls Try.prog 18 #[.pointer (some ⟨b + 1, 0, none⟩), .int .u8 0, .agg #[.int .i64 0, .slice a9 1 1]] X fun e w' => Rg.Op X b (b + 1) b (cut L 0 (0, [sg])) e w' := cut_any 0 0 a9 1 1 (0, [sg]) b (b + 1) b L X hX3 hX1 HV.out.2.2.2.2.2.2.1.1 (by omega) (show tz [sg] ≤ 50000 by rw [tz_cons, tz_nil, HV.out.2.2.2.2.2.2.2.2.2]; omega) (Nat.le_of_lt hX1.blt)
        obtain ⟨Q, hQ⟩ : ∃ Q, Q = cut L 0 ((0 : Int), [sg]) := ⟨_, rfl⟩
        rw [← hQ] at hy y1 y2
        obtain ⟨E, L'⟩ := Q
        simp only at y1 y2
        subst y1
        have p0 := hX2.c0
        have p1 : X.cell? ⟨g9, 1, none⟩ = some (.slice a9 1 1) := hX2.c1
        have HX := Lib.hid (And.intro hX1 (And.intro hX4 (And.intro hX5 y2)))
        clear hQ hX1 hX2 hX3 hX4 hX5 y2 hcb
        go_wp2_with fail
        refine hy.mono ?_
        rintro e Y ⟨rfl, hY1, hfY⟩
        simp only
        have HE : Hid (∃ (L : ML G) (big : List ByteArray) (st : Option ByteArray), Fls Y b (b + 1) b L ∧ Sh L big st ∧ El Y b (0, a, M, c) (0, big) ∧ sg = la st ∧ (∀ s, st = some s → s.size = 2) ∧ Below w.heap.size w Y) :=
          ⟨L', big, some sg, hY1, HX.out.2.2.2, HX.out.2.2.1.fr hfY HX.out.1.ro, rfl, (fun s h => by cases h; exact HV.out.2.2.2.2.2.2.2.2.2), HX.out.2.1.trans (hfY.below HX.out.2.1.size (fun j e => by rw [e]; exact HF2.out.2.2.2))⟩
        clear hy hY1 hfY p0 p1
        go_wp2
        go_roundw
        case rel => exact ⟨k + 1, M, a, c, sg, by omega, by omega, by go_num, rfl, rfl, HE⟩
        case measure => simp [RowKit.intOf]; omega
      | false =>
        have hlit := World.ownsRow_lit (base := b) V #[.string sg] 1 (e := ES) (size := 1) (Nat.le_of_lt HV.out.1.blt) (by simp [maxLen]) rfl
        have hsrc := SrcV.below (El.ss HV.out.2.2.2.1) (one_below V (.cells #[.string sg] 9))
        have HL := Lib.hid (And.intro hlit hsrc)
        clear hlit hsrc
        go_upto_region 16 with fail
        go_wp2_with (at_builtin; go_must (refine append_srcv _ rfl _ _ 31 rfl b ES i0 (.string ⟨#[]⟩) 1 16 underS hi0 hz0 hz1 hz2 rfl (by decide) (.slice (some ⟨V.heap.size, 0, none⟩) 1 1) 1 _ rfl HL.out.1 (.slice a M c) M _ rfl HL.out.2 (by simp only [maxLen]; omega) (by omega) (Nat.le_trans (Nat.le_of_lt HV.out.1.blt) (one_below V (.cells #[.string sg] 9)).size) ?_); intro ob oc X hown hg hnr; have hbX : Below V.heap.size V X := (one_below V (.cells #[.string sg] 9)).grown hg (one_below V (.cells #[.string sg] 9)).size (fun j e => by simp only [Value.ownBlock, Option.some.injEq] at e; omega); have HX := Lib.hid (And.intro hbX (show El X b (0, ob, 1 + M, oc) (0, sg :: big) from El.own hown)); have p0 := (HV.out.2.1.below hbX HV.out.2.1.lt).c0; have p1 : X.cell? ⟨g9, 1, none⟩ = some (.slice a9 1 1) := (HV.out.2.1.below hbX HV.out.2.1.lt).c1; clear hown hg hnr hbX)
        obtain ⟨y1, y2⟩ := HV.out.2.2.2.2.2.2.1.line sg HV.out.2.2.2.2.2.2.2.2.2
        have hy : Calls Try.prog 18 #[.pointer (some ⟨b + 1, 0, none⟩), .int .u8 0, .agg #[.int .i64 1, .slice a9 1 1]] X fun e w' => Rg.Op X b (b + 1) b (cut L 0 (1, [sg])) e w' := cut_any 0 1 a9 1 1 (1, [sg]) b (b + 1) b L X (HV.out.2.2.1.below HX.out.1) (HV.out.1.below HX.out.1) HV.out.2.2.2.2.2.2.1.1 (by omega) (show tz [sg] ≤ 50000 by rw [tz_cons, tz_nil, HV.out.2.2.2.2.2.2.2.2.2]; omega) (Nat.le_of_lt (HV.out.1.below HX.out.1).blt)
        obtain ⟨Q, hQ⟩ : ∃ Q, Q = cut L 0 ((1 : Int), [sg]) := ⟨_, rfl⟩
        rw [← hQ] at hy y1 y2
        obtain ⟨E, L'⟩ := Q
        simp only at y1 y2
        subst y1
        have p0 := (HV.out.2.1.below HX.out.1 HV.out.2.1.lt).c0
        have p1 : X.cell? ⟨g9, 1, none⟩ = some (.slice a9 1 1) := (HV.out.2.1.below HX.out.1 HV.out.2.1.lt).c1
        have HY2 := Lib.hid y2
        clear hQ y2 hcb
        refine hy.mono ?_
        rintro e Y ⟨rfl, hY1, hfY⟩
        simp only
        have hbw2 := HV.out.2.2.2.2.1.trans (HX.out.1.mono HV.out.2.2.2.2.1.size)
        have HE : Hid (∃ (L : ML G) (big : List ByteArray) (st : Option ByteArray), Fls Y b (b + 1) b L ∧ Sh L big st ∧ El Y b (0, ob, 1 + M, oc) (0, big) ∧ A = la st ∧ (∀ s, st = some s → s.size = 2) ∧ Below w.heap.size w Y) :=
          ⟨L', sg :: big, st, hY1, HY2.out, HX.out.2.fr hfY (HV.out.1.below HX.out.1).ro, HV.out.2.2.2.2.2.2.2.1, HV.out.2.2.2.2.2.2.2.2.1, hbw2.trans (hfY.below hbw2.size (fun j e => by rw [e]; exact HF2.out.2.2.2))⟩
        clear hy hY1 hfY p0 p1 hbw2
        go_wp2
        go_roundw
        case rel => exact ⟨k + 1, 1 + M, ob, oc, A, by omega, by omega, by go_num, by go_num, rfl, HE⟩
        case measure => simp [RowKit.intOf]; omega
    · obtain rfl : k = N := by omega
      obtain ⟨L, big, st, hf, hsh, hbig, hA, hst, hbw⟩ := HR.out
      have HW := Lib.hid (And.intro hf (And.intro hsh (And.intro hbig (And.intro hA (And.intro hst hbw)))))
      clear hf hsh hbig hA hst hbw HR hkN hk
      go_wp2
      go_loopw [11] (fun i wq => ∃ j : Nat, j ≤ 9 ∧ i = .int .i64 j ∧ Hid (Below wr.heap.size wr wq)) (fun i _ => 9 - (RowKit.intOf i).toNat)
      case atStart => exact ⟨0, by omega, rfl, Below.refl _ _⟩
      case round =>
        obtain ⟨j, hj, rfl, D⟩ := hrel
        by_cases hj9 : j < 9
        · have hlk := HW.out.2.1.2.1 j hj9
          have hg := get_any (49 + j) b (b + 1) b L _ (HW.out.1.below D.out) HW.out.2.1.1 (by omega) (Nat.le_of_lt (HW.out.1.below D.out).blt)
          rw [show reg (49 + j) = 49 + j by unfold reg; rw [if_neg (by omega), if_neg (by omega)], hlk] at hg
          have v1 : IntKind.u8.wrap (49 + (j : Int)) = ((49 + j : Nat) : Int) := by rw [IntKind.wrap_u8]; omega
          have hel := HW.out.2.2.1.below D.out
          have hlen := hel.len
          simp only at hlen
          obtain ⟨f, hf⟩ : ∃ f, f = 49 + j := ⟨_, rfl⟩
          rw [← hf] at hg v1
          clear hf hlk
          by_cases hjM : j < M
          · have hjb : j < big.length := by omega
            obtain ⟨s, hs⟩ : ∃ s, s = big[j] := ⟨_, rfl⟩
            rw [List.getElem?_eq_getElem hjb, ← hs] at hg
            change Calls Try.prog _ _ _ (fun e w' => RbOut _ b (1, [s]) true e w') at hg
            obtain ⟨gb, go, hga, hgc, hgn, _⟩ := Ss.read hel.2.1 j hjb
            simp only at hga hgc hgn
            subst hga
            rw [← hs] at hgc
            have hSs : Ss _ (some ⟨gb, go + j, none⟩) 1 (c - j) [s] := ⟨rfl, by simp [Value.oneCell'], by simp [maxLen], .inr ⟨gb, go + j, c - j, rfl, by omega, by
              obtain ⟨_, _, _, ⟨ao, he, h0⟩ | ⟨b', o', c', he, h3, h4, _⟩⟩ := hel.2.1
              · simp only at h0; omega
              · simp only at he
                injection he with _ _ e3
                subst e3; omega, fun i u hi => by
              match i, hi with
              | 0, hi => cases hi; exact hgc
              | i + 1, hi => simp at hi⟩⟩
            have HS := Lib.hid hSs
            have HE0 := Lib.hid hel
            clear hs hSs hgc hlen hel
            go_wp2_with fail
            refine hg.mono ?_
            rintro e v1 ⟨⟨k1, a1, n1', c1⟩, rfl, he1, hb1⟩
            simp only [rv, sv]
            go_upto_region 23 with fail
            obtain ⟨v1', hv1⟩ : ∃ v1', v1' = v1.alloc (.cells #[.int .i64 k1, .slice a1 n1' c1] 33) := ⟨_, rfl⟩
            have hb1' : Below v1.heap.size v1 v1' := by rw [hv1]; exact one_below _ _
            have hr1 : RegAt v1' v1.heap.size (k1, a1, n1', c1) := by rw [hv1]; exact RegAt.new v1 (k1, a1, n1', c1)
            obtain ⟨u1, hu1⟩ : ∃ u1, u1 = v1.heap.size := ⟨_, rfl⟩
            rw [← hu1] at hr1
            rw [← hv1, ← hu1]
            have G1 := Lib.hid (And.intro (below_on hb1 hb1') (And.intro hr1 (he1.below hb1')))
            clear hv1 hb1' hr1 hu1 he1 hb1
            have hst := fun W (hW : Below v1'.heap.size v1' W) => strings_t (w := W) (SrcV.below (El.ss G1.out.2.2) hW) (SrcV.below HS.out (below_on G1.out.1 hW))
            have p1 : v1'.cell? ⟨u1, 1, none⟩ = some (.slice a1 n1' c1) := G1.out.2.1.c1
            have e1 : (j : Int) < (M : Int) := by omega
            have e2 : decide ((j : Int) < (M : Int)) = true := decide_eq_true e1
            have e3 : decide (j < M) = true := decide_eq_true hjM
            have e4 : ¬ c = j := by omega
            have HG := Lib.hid (below_on D.out G1.out.1)
            clear hg hjb
            go_wp2_with fail
            have F_0 := fun (C : World → Prop) (hC : Grows v1' C) (z : In C) => hC.cell p1 z
            have F_1 := fun (C : World → Prop) (hC : Grows v1' C) (z : In C) => Calls.in_of hC (hst z.W (hC.below _ z.isIn))
            refine wp_region_seg [0, 1, 2, 3, 4, 5, 6, 7, 8, 9, 10, 11, 12, 13, 14, 15, 16, 17, 18, 19] [] (by kernel_rfl) (by kernel_rfl) 104 rfl (by kernel_rfl) ?_
            simp only [List.map_cons, List.map_nil, opOf_succ, opOf_zero]
            apply Exists.intro
            refine ⟨fun C hC => ?_, ?_⟩
            · haveI hI := hC.one
              have f_0 := F_0 C hC
              have f_1 := F_1 C hC
              repeat (go_big_quiet_step (first | (go_at_call 27; exact f_1 _)))
              exact wpQuiet_nil rfl
            clear F_0 F_1
            refine wpPath_end fun v3 hb3 => ?_
            have HE := Lib.hid (below_on HG.out hb3)
            clear hb3 hst p1 e2 e3
            go_wp2
            go_roundw
            case rel => exact ⟨j + 1, by omega, by go_num, HE⟩
            case measure => simp [RowKit.intOf]; omega
          · rw [List.getElem?_eq_none (by omega)] at hg
            change Calls Try.prog _ _ _ (fun e w' => RbOut _ b (0, []) false e w') at hg
            clear hlen hel
            go_wp2_with fail
            refine hg.mono ?_
            rintro e v1 ⟨⟨k1, a1, n1', c1⟩, rfl, he1, hb1⟩
            simp only [rv, sv]
            go_upto_region 23 with fail
            obtain ⟨v1', hv1⟩ : ∃ v1', v1' = v1.alloc (.cells #[.int .i64 k1, .slice a1 n1' c1] 33) := ⟨_, rfl⟩
            have hb1' : Below v1.heap.size v1 v1' := by rw [hv1]; exact one_below _ _
            have hr1 : RegAt v1' v1.heap.size (k1, a1, n1', c1) := by rw [hv1]; exact RegAt.new v1 (k1, a1, n1', c1)
            obtain ⟨u1, hu1⟩ : ∃ u1, u1 = v1.heap.size := ⟨_, rfl⟩
            rw [← hu1] at hr1
            rw [← hv1, ← hu1]
            have G1 := Lib.hid (And.intro (below_on hb1 hb1') (And.intro hr1 (he1.below hb1')))
            clear hv1 hb1' hr1 hu1 he1 hb1
            have e1 : ¬ (j : Int) < (M : Int) := by omega
            have e2 : decide ((j : Int) < (M : Int)) = false := decide_eq_false e1
            have e3 : decide (j < M) = false := decide_eq_false hjM
            have HG := Lib.hid (below_on D.out G1.out.1)
            clear hg
            go_wp2_with fail
            refine wp_region_seg [0, 1, 2, 3, 4, 5, 6, 7, 8, 9, 10, 11, 12, 13, 14, 15, 16, 17, 18, 19] [] (by kernel_rfl) (by kernel_rfl) 104 rfl (by kernel_rfl) ?_
            simp only [List.map_cons, List.map_nil, opOf_succ, opOf_zero]
            apply Exists.intro
            refine ⟨fun C hC => ?_, ?_⟩
            · haveI hI := hC.one
              repeat (go_big_quiet_step (fail))
              exact wpQuiet_nil rfl
            refine wpPath_end fun v3 hb3 => ?_
            have HE := Lib.hid (below_on HG.out hb3)
            clear hb3 e2 e3
            go_wp2
            go_roundw
            case rel => exact ⟨j + 1, by omega, by go_num, HE⟩
            case measure => simp [RowKit.intOf]; omega
        · obtain rfl : j = 9 := by omega
          clear hj hj9
          have hg := get_any 45 b (b + 1) b L _ (HW.out.1.below D.out) HW.out.2.1.1 (by omega) (Nat.le_of_lt (HW.out.1.below D.out).blt)
          rw [show reg 45 = 45 from rfl, HW.out.2.1.2.2] at hg
          have HD := Lib.hid (HW.out.2.2.2.2.2.trans (D.out.mono HW.out.2.2.2.2.2.size))
          cases st with
          | none =>
            change Calls Try.prog _ _ _ (fun e w' => RbOut _ b (0, []) false e w') at hg
            have hA0 : A = ⟨#[]⟩ := HW.out.2.2.2.1
            subst hA0
            go_wp2_with fail
            refine hg.mono ?_
            rintro e v1 ⟨⟨k1, a1, n1', c1⟩, rfl, he1, hb1⟩
            simp only [rv, sv]
            go_upto_region 26 with fail
            obtain ⟨v1', hv1⟩ : ∃ v1', v1' = v1.alloc (.cells #[.int .i64 k1, .slice a1 n1' c1] 33) := ⟨_, rfl⟩
            have hb1' : Below v1.heap.size v1 v1' := by rw [hv1]; exact one_below _ _
            have hr1 : RegAt v1' v1.heap.size (k1, a1, n1', c1) := by rw [hv1]; exact RegAt.new v1 (k1, a1, n1', c1)
            obtain ⟨u1, hu1⟩ : ∃ u1, u1 = v1.heap.size := ⟨_, rfl⟩
            rw [← hu1] at hr1
            rw [← hv1, ← hu1]
            have G1 := Lib.hid (And.intro (below_on hb1 hb1') (And.intro hr1 (he1.below hb1')))
            clear hv1 hb1' hr1 hu1 he1 hb1
            have HE := Lib.hid (HD.out.trans (G1.out.1.mono HD.out.size))
            clear hg
            go_wp2
            go_ret
            exact ⟨rfl, HE.out⟩
          | some s =>
            change Calls Try.prog _ _ _ (fun e w' => RbOut _ b (0, [s]) true e w') at hg
            have hA0 : A = s := HW.out.2.2.2.1
            subst hA0
            have hs2 := HW.out.2.2.2.2.1 A rfl
            have hne := empty_of_pos (x := A) (by omega)
            have hne2 : (A.toList == (⟨#[]⟩ : ByteArray).toList) = false := str_ne (fun e => by rw [e] at hs2; exact absurd hs2 (by decide))
            clear hs2
            go_wp2_with fail
            refine hg.mono ?_
            rintro e v1 ⟨⟨k1, a1, n1', c1⟩, rfl, he1, hb1⟩
            simp only [rv, sv]
            go_upto_region 26 with fail
            obtain ⟨v1', hv1⟩ : ∃ v1', v1' = v1.alloc (.cells #[.int .i64 k1, .slice a1 n1' c1] 33) := ⟨_, rfl⟩
            have hb1' : Below v1.heap.size v1 v1' := by rw [hv1]; exact one_below _ _
            have hr1 : RegAt v1' v1.heap.size (k1, a1, n1', c1) := by rw [hv1]; exact RegAt.new v1 (k1, a1, n1', c1)
            obtain ⟨u1, hu1⟩ : ∃ u1, u1 = v1.heap.size := ⟨_, rfl⟩
            rw [← hu1] at hr1
            rw [← hv1, ← hu1]
            have G1 := Lib.hid (And.intro (below_on hb1 hb1') (And.intro hr1 (he1.below hb1')))
            clear hv1 hb1' hr1 hu1 he1 hb1
            have p1 : v1'.cell? ⟨u1, 1, none⟩ = some (.slice a1 n1' c1) := G1.out.2.1.c1
            have hst := strings_t (w := v1'.alloc (.cells #[.string A] 9)) (SrcV.below (El.ss G1.out.2.2) (one_below _ _)) (show Ss (v1'.alloc (.cells #[.string A] 9)) (some ⟨v1'.heap.size, 0, none⟩) 1 1 [A] from SrcV.lit v1' #[.string A] ES 1 rfl (by simp [Value.oneCell']) (by simp [maxLen]))
            have HE := Lib.hid (HD.out.trans ((below_on G1.out.1 (one_below v1' (.cells #[.string A] 9))).mono HD.out.size))
            clear hg
            go_wp2_with fail
            refine hst.mono ?_
            rintro e v3 ⟨rfl, hb3⟩
            have HE := Lib.hid (HE.out.trans (hb3.mono HE.out.size))
            clear hb3 hst p1
            go_wp2
            go_ret
            exact ⟨rfl, HE.out⟩
end Go.Proofs.Ytgfajagajiofnaa.RSh
