/-
  The law RegsAppend, walked.
-/
import Derived.Test.YtgfajagajiofnaaRo
import Derived.Test.YtgfajagajiofnaaRs
import Derived.Deep.CutRange
import Derived.Deep.CutBlock
set_option linter.unusedVariables false
set_option linter.unusedSimpArgs false
set_option maxRecDepth 100000
namespace Go.Proofs.Ytgfajagajiofnaa.RAp
open Go Go.RowKit Go.Proofs.Ytgfajagajiofnaa.Vk Go.Proofs.Ytgfajagajiofnaa.Str Go.Proofs.Ytgfajagajiofnaa.Ln Go.Proofs.Ytgfajagajiofnaa.Cl Go.Proofs.Ytgfajagajiofnaa.Rl Go.Proofs.Ytgfajagajiofnaa.Rg
attribute [local go_sem] Oper.semAt_some

theorem reg_ne_m {w : World} {B m b g : Nat} {L : ML G} {x : R} (h : Fls w B m b L) (hr : RegAt w g x) : ¬ m = g := fun e => by
  subst e
  have h1 := h.1
  unfold RegAt at hr
  rw [h1] at hr
  simp only [Option.some.injEq, Obj.cells.injEq] at hr
  exact absurd hr.2.1 (by decide)
theorem u8_of {l : Int} (h : (Lit.int .u8 l).wf = true) : 0 ≤ l ∧ l ≤ 255 := by simpa [Lit.wf, show IntKind.u8.min = 0 from rfl, show IntKind.u8.max = 255 from rfl] using h
/-- The texts so far, one behind another. -/
def cs (ls : List ByteArray) : Nat → ByteArray
  | 0 => ⟨#[]⟩
  | k + 1 => cs ls k ++ ls.getD k ⟨#[]⟩
/-- What the register is behind k rounds. -/
def Rk (q : Bool) (ls : List ByteArray) (k : Nat) : G := if q = true then (1, ls.take k) else (0, [cs ls k])
theorem nil_app (x : ByteArray) : (⟨#[]⟩ : ByteArray) ++ x = x := str_inj (by rw [ByteArray.toList_eq, ByteArray.toList_eq, app_list]; rfl)
theorem R_one (q : Bool) (ls : List ByteArray) (h : 0 < ls.length) : Rk q ls 1 = ((if q = true then 1 else 0 : Int), [ls[0]]) := by
  unfold Rk
  cases q with
  | true =>
    rw [if_pos rfl, if_pos rfl]
    cases ls with
    | nil => simp at h
    | cons x l => rfl
  | false =>
    rw [if_neg (by decide), if_neg (by decide)]
    show ((0 : Int), [(⟨#[]⟩ : ByteArray) ++ ls.getD 0 ⟨#[]⟩]) = _
    rw [nil_app, List.getD_eq_getElem?_getD, List.getElem?_eq_getElem h]
    rfl
theorem R_next (q : Bool) (ls : List ByteArray) (k : Nat) (hk : k < ls.length) : Rk q ls (k + 1) = jn (Rk q ls k) ((if q = true then 1 else 0 : Int), [ls[k]]) := by
  unfold Rk
  cases q with
  | true =>
    rw [if_pos rfl, if_pos rfl, if_pos rfl, List.take_succ_eq_append_getElem hk]
    unfold jn
    rw [if_neg (fun h => absurd (show (1 : Int) = 0 from h.1) (by decide))]
  | false =>
    rw [if_neg (by decide), if_neg (by decide), if_neg (by decide)]
    unfold jn
    rw [if_pos ⟨rfl, rfl⟩]
    show ((0 : Int), [cs ls k ++ ls.getD k ⟨#[]⟩]) = _
    rw [List.getD_eq_getElem?_getD, List.getElem?_eq_getElem hk]
    rfl
theorem R_tz (q : Bool) (ls : List ByteArray) (k M : Nat) (h1 : (cs ls k).size ≤ M) (h2 : tz (ls.take k) ≤ M) : tz (Rk q ls k).2 ≤ M + 1 := by
  unfold Rk
  split
  · show tz (ls.take k) ≤ _
    omega
  · show tz [cs ls k] ≤ _
    rw [tz_cons, tz_nil]
    omega
/-- A capital's yank. -/
theorem yank_cap (L : ML G) (c e : Nat) (g r : G) (hc : 65 ≤ c ∧ c ≤ 90) (he : e = c + 32) (hr : pr L c g = r) (ht : tz r.2 ≤ 4096) : yank L c g = (0, ins (ins L e r) 34 r) := by
  have hre : reg c = e := by unfold reg; rw [if_neg (by omega), if_pos hc, he]
  unfold yank
  have hp : put L c g = (0, ins L e r) := by unfold put; rw [hre, if_pos (by omega), hr, if_pos ht]
  rw [if_neg (by omega), if_neg (by omega), hp]
  show (if (0 : Int) = 0 then _ else _) = _
  rw [if_pos rfl, hre, hand_some (by rw [look_ins, if_pos rfl])]
theorem pr_none (L : ML G) (c e : Nat) (g : G) (hc : 65 ≤ c ∧ c ≤ 90) (he : e = c + 32) (h : lk L e = none) : pr L c g = g := by
  have hre : reg c = e := by unfold reg; rw [if_neg (by omega), if_pos hc, he]
  unfold pr
  rw [hre, if_neg (by omega), h]
theorem pr_some (L : ML G) (c e : Nat) (g h' : G) (hc : 65 ≤ c ∧ c ≤ 90) (he : e = c + 32) (h : lk L e = some h') : pr L c g = jn h' g := by
  have hre : reg c = e := by unfold reg; rw [if_neg (by omega), if_pos hc, he]
  unfold pr
  rw [hre, if_neg (by omega), h]
/-- What stands behind k rounds. -/
def St (q : Bool) (ls : List ByteArray) (e : Nat) (L : ML G) (k : Nat) : Prop := Ok L ∧ (k = 0 → lk L e = none) ∧ (0 < k → lk L e = some (Rk q ls k) ∧ lk L 34 = some (Rk q ls k))
theorem St.step {q : Bool} {ls : List ByteArray} {e k c : Nat} {L : ML G} (h : St q ls e L k) (hk : k < ls.length) (hc : 65 ≤ c ∧ c ≤ 90) (he : e = c + 32) (ht : tz (Rk q ls (k + 1)).2 ≤ 4096) :
    (yank L c ((if q = true then 1 else 0 : Int), [ls[k]])).1 = 0 ∧ St q ls e (yank L c ((if q = true then 1 else 0 : Int), [ls[k]])).2 (k + 1) := by
  have hr : pr L c ((if q = true then 1 else 0 : Int), [ls[k]]) = Rk q ls (k + 1) := by
    rcases Nat.eq_zero_or_pos k with h0 | h0
    · subst h0
      rw [pr_none L c e _ hc he (h.2.1 rfl), R_one q ls hk]
    · rw [pr_some L c e _ _ hc he (h.2.2 h0).1, R_next q ls k hk]
  have hok := ok_yank h.1 c ((if q = true then 1 else 0 : Int), [ls[k]])
  rw [yank_cap L c e _ _ hc he hr ht] at hok ⊢
  refine ⟨rfl, hok, fun h => absurd h (by omega), fun _ => ⟨?_, ?_⟩⟩
  · show lk (ins (ins L e _) 34 _) e = _
    rw [look_ins, if_neg (by omega), look_ins, if_pos rfl]
  · show lk (ins (ins L e _) 34 _) 34 = _
    rw [look_ins, if_pos rfl]

set_option maxHeartbeats 4000000 in
theorem walk (pa : Option Addr) (N cp : Nat) (ls : List ByteArray) (q : Bool) (nm : Int) (w : World) (hp : SrcV w 1 (.slice pa N cp) N (ls.map .string)) (hb : ∀ s ∈ ls, s.size ≤ 140737488355328) (wn : (Lit.int .u8 nm).wf = true) :
    Calls Try.prog 8 #[.slice pa N cp, .bool q, .int .u8 nm] w fun e w' => e = .returned (.bool true) ∧ Below w.heap.size w w' := by
  have hk := known_any w
  have hnm := u8_of wn
  obtain ⟨d, hd⟩ : ∃ d, d = nm.toNat := ⟨_, rfl⟩
  obtain rfl : nm = (d : Int) := by omega
  have hd256 : d < 256 := by omega
  have HP := Lib.hid (And.intro hp (And.intro hb (Ss.length hp)))
  have hN63 := Ss.le63 hp
  clear hnm hd wn hp hb
  go_enter Try.func8, Try.ntmps8
  go_wp2_with fail
  refine hk.mono ?_
  rintro e w1 ⟨rfl, hb1⟩
  have HB := Lib.hid hb1
  clear hk hb1
  by_cases h12 : 12 < N
  · go_wp2
    go_ret
    exact ⟨rfl, HB.out⟩
  by_cases h0 : N = 0
  · subst h0
    go_wp2
    go_ret
    exact ⟨rfl, HB.out⟩
  have hN0 : ((N : Int) == 0) = false := by rw [beq_eq_false_iff_ne]; omega
  have HN := Lib.hid (show 0 < N ∧ N ≤ 12 by omega)
  clear h0
  go_wp2_with fail
  refine (new_any w1 w1.heap.size (Nat.le_refl _)).mono ?_
  rintro e w2 ⟨rfl, hm2, hb2⟩
  obtain ⟨b, hbq⟩ : ∃ b, b = w1.heap.size := ⟨_, rfl⟩
  rw [← hbq] at hm2
  rw [← hbq]
  have HF2 := Lib.hid (And.intro hm2 (And.intro (below_on HB.out hb2) (And.intro (show b ≤ w2.heap.size by rw [hbq]; exact hb2.size) (show w.heap.size ≤ b by rw [hbq]; exact HB.out.size))))
  clear hbq hm2 hb2
  clear hN0
  obtain ⟨c, hc⟩ : ∃ c, c = 65 + d % 26 := ⟨_, rfl⟩
  obtain ⟨f, hf⟩ : ∃ f, f = c + 32 := ⟨_, rfl⟩
  have HCF := Lib.hid (And.intro (show 65 ≤ c ∧ c ≤ 90 by omega) hf)
  have v1 : IntKind.u8.wrap (65 + (d : Int) % 26) = (c : Int) := by rw [IntKind.wrap_u8]; omega
  have v2 : IntKind.u8.wrap (97 + (d : Int) % 26) = (f : Int) := by rw [IntKind.wrap_u8]; omega
  have v1' : IntKind.u8.wrap (65 + ((d % 26 : Nat) : Int)) = (c : Int) := by rw [IntKind.wrap_u8]; omega
  have v2' : IntKind.u8.wrap (97 + ((d % 26 : Nat) : Int)) = (f : Int) := by rw [IntKind.wrap_u8]; omega
  have HVV := Lib.hid (And.intro v2 v2')
  clear hc hf v2 v2'
  go_wp2
  go_loopw [8, 9] (fun u i wr => ∃ (k : Nat) (A : ByteArray), k ≤ N ∧ i = .int .i64 k ∧ u = .string A ∧ A.size ≤ 50 * k ∧ Hid (A = cs ls k ∧ tz (ls.take k) ≤ 51 * k ∧ Below w.heap.size w wr ∧ ∃ L, Fls wr b (b + 1) b L ∧ St q ls f L k)) (fun _ i _ => N - (RowKit.intOf i).toNat)
  case atStart => exact ⟨0, ⟨#[]⟩, Nat.zero_le _, rfl, rfl, Nat.zero_le _, rfl, Nat.zero_le _, HF2.out.2.1, [], HF2.out.1, ok_nil, fun _ => rfl, fun h => absurd h (by omega)⟩
  case round =>
    obtain ⟨k, A, hk, rfl, rfl, hA, HR⟩ := hrel
    by_cases hkN : k < N
    · have hkl : k < ls.length := by have := HP.out.2.2; omega
      obtain ⟨hcs, htz, hbw, L, hfl, hst⟩ := HR.out
      obtain ⟨pb, po, hpa, hcb, hcp, _⟩ := Ss.read (SrcV.below HP.out.1 (hbw.mono (Nat.le_refl _))) k hkl
      subst hpa
      have hnx := tz_next ls k hkl
      have hpb : pb < w.heap.size := SrcV.blkLt HP.out.1 (by omega) pb rfl
      obtain ⟨x, hx⟩ : ∃ x, x = ls[k] := ⟨_, rfl⟩
      rw [← hx] at hcb hnx
      have HX := Lib.hid hx
      by_cases h50 : 50 < x.size
      · have HE := Lib.hid hbw
        clear hbw hfl hst hcs htz hnx hx HR
        go_wp2
        go_ret
        exact ⟨rfl, HE.out⟩
      have h50' : ¬ (50 : Int) < (x.size : Int) := by omega
      have hcs' : cs ls (k + 1) = A ++ x := by
        show cs ls k ++ ls.getD k ⟨#[]⟩ = _
        rw [List.getD_eq_getElem?_getD, List.getElem?_eq_getElem hkl, hcs, hx]
        rfl
      have hSs : Ss wr (some ⟨pb, po + k, none⟩) 1 (cp - k) [x] := by
        refine ⟨rfl, by simp [Value.oneCell'], by simp [maxLen], .inr ⟨pb, po + k, cp - k, rfl, by omega, ?_, fun j u hj => ?_⟩⟩
        · obtain ⟨_, _, _, ⟨ao, he, h0⟩ | ⟨b', o', c', he, h3, h4, _⟩⟩ := HP.out.1
          · omega
          · injection he with _ _ e3; subst e3; omega
        · match j, hj with
          | 0, hj => cases hj; exact hcb
          | j + 1, hj => simp at hj
      have hel : El wr b (0, some ⟨pb, po + k, none⟩, 1, cp - k) (0, [x]) := ⟨rfl, hSs, fun _ g hg => .inl (by
        have : pb = g := by simpa [blk, sv] using hg
        have := HF2.out.2.2.2
        omega)⟩
      have hsz1 : (cs ls (k + 1)).size ≤ 50 * (k + 1) := by rw [hcs', ByteArray.size_append]; omega
      have hsz2 : tz (ls.take (k + 1)) ≤ 51 * (k + 1) := by omega
      obtain ⟨y1, y2⟩ := hst.step hkl HCF.out.1 HCF.out.2 (by have := R_tz q ls (k + 1) 700 (by omega) (by omega); omega)
      rw [← hx] at y1 y2
      have H := Lib.hid (And.intro hfl (And.intro hst (And.intro hel (And.intro y1 (And.intro y2 (And.intro hbw (And.intro hcs' (And.intro hsz1 (And.intro hsz2 (show tz [x] ≤ 51 by rw [tz_cons, tz_nil]; omega))))))))))
      have hAx : ¬ (9223372036854775807 < A.size + x.size) := by omega
      have hcpk : ¬ cp = k := by omega
      have hcpk' : ¬ (cp : Int) = (k : Int) := by omega
      clear hfl hst hel y1 y2 hcs hcs' htz hsz1 hsz2 hnx hSs hx hbw HR h50
      go_upto_region 13 with fail
      have hVr := RegAt.new wr (0, some ⟨pb, po + k, none⟩, 1, cp - k)
      have hbV := one_below wr (.cells #[.int .i64 0, .slice (some ⟨pb, po + k, none⟩) 1 (cp - k)] 33)
      obtain ⟨V, hV⟩ : ∃ V, V = wr.alloc (.cells #[.int .i64 0, .slice (some ⟨pb, po + k, none⟩) 1 (cp - k)] 33) := ⟨_, rfl⟩
      have hVr : RegAt V wr.heap.size (0, some ⟨pb, po + k, none⟩, 1, cp - k) := by rw [hV]; exact hVr
      rw [← hV] at hbV
      rw [← hV]
      have hbg : b ≤ wr.heap.size := Nat.le_of_lt H.out.1.blt
      have hwg : w.heap.size ≤ wr.heap.size := H.out.2.2.2.2.2.1.size
      obtain ⟨g, hg⟩ : ∃ g, g = wr.heap.size := ⟨_, rfl⟩
      rw [← hg] at hVr hbg hwg
      rw [← hg]
      have HV := Lib.hid (And.intro hVr (And.intro (H.out.1.below hbV) (And.intro (H.out.2.2.1.below hbV) (And.intro (H.out.2.2.2.2.2.1.trans (hbV.mono H.out.2.2.2.2.2.1.size)) (And.intro hbg hwg)))))
      clear hV hVr hbV hg hbg hwg hcpk hcpk'
      cases q with
      | true =>
        have m0 := HV.out.1.c0
        have m1 : V.cell? ⟨g, 1, none⟩ = some (.slice (some ⟨pb, po + k, none⟩) 1 (cp - k)) := HV.out.1.c1
        have z := HV.out.1.z
        have hfX := (Fr.refl (fun j => j = g) V).setCell (p := ⟨g, 0, none⟩) (fun _ => rfl) (.int .i64 1)
        have hro : ∀ j, j = g → ¬ Ro V b j := fun j e => by subst e; exact HV.out.1.ro HV.out.2.2.2.2.1
        have hX1 := HV.out.2.1.fr hfX (fun e => reg_ne_m HV.out.2.1 HV.out.1 e) (fun e => HV.out.2.1.reg_ne HV.out.1 e.symm) hro
        have hX2 : RegAt (V.setCell ⟨g, 0, none⟩ (.int .i64 1)) g (1, some ⟨pb, po + k, none⟩, 1, cp - k) := (heap_setCell_same V g 0 _ _ (.int .i64 1) HV.out.1).trans (by simp)
        have hX3 := HV.out.2.2.1.fr hfX hro
        have hX3 : El (V.setCell ⟨g, 0, none⟩ (.int .i64 1)) b (1, some ⟨pb, po + k, none⟩, 1, cp - k) (1, [x]) := ⟨rfl, hX3.2.1, hX3.2.2⟩
        have hX4 : Below w.heap.size w (V.setCell ⟨g, 0, none⟩ (.int .i64 1)) := HV.out.2.2.2.1.setCell (p := ⟨g, 0, none⟩) HV.out.2.2.2.2.2 (.int .i64 1)
        have hBX : b ≤ (V.setCell ⟨g, 0, none⟩ (.int .i64 1)).heap.size := Nat.le_trans HV.out.2.2.2.2.1 (Nat.le_of_lt hX2.lt)
        go_upto_region 15 with fail
        obtain ⟨X, hX⟩ : ∃ X, X = V.setCell ⟨g, 0, none⟩ (.int .i64 1) := ⟨_, rfl⟩
        rw [← hX] at hX1 hX2 hX3 hX4 hBX
        rw [← hX]
        clear hX m0 m1 z hfX hro
        have hy := yank_any c 1 (some ⟨pb, po + k, none⟩) 1 (cp - k) (1, [x]) b (b + 1) b L X hX3 hX1 H.out.2.1.1 (by have := HCF.out.1; omega) (show tz [x] ≤ 50000 by have := H.out.2.2.2.2.2.2.2.2.2; omega) hBX
        have y1 : (yank L c ((1 : Int), [x])).1 = 0 := H.out.2.2.2.1
        have y2 : St true ls f (yank L c ((1 : Int), [x])).2 (k + 1) := H.out.2.2.2.2.1
        obtain ⟨Z, hZ⟩ : ∃ Z, Z = yank L c ((1 : Int), [x]) := ⟨_, rfl⟩
        rw [← hZ] at hy y1 y2
        obtain ⟨E, L'⟩ := Z
        simp only at y1 y2
        subst y1
        have p0 := hX2.c0
        have p1 : X.cell? ⟨g, 1, none⟩ = some (.slice (some ⟨pb, po + k, none⟩) 1 (cp - k)) := hX2.c1
        have HX2 := Lib.hid (And.intro hX4 y2)
        clear hZ hX1 hX2 hX3 hX4 hBX y2 hcb
        go_wp2_with fail
        refine hy.mono ?_
        rintro e Y ⟨rfl, hY1, hfY⟩
        simp only
        have hbY : Below w.heap.size w Y := HX2.out.1.trans (hfY.below HX2.out.1.size (fun j e => by rw [e]; exact HF2.out.2.2.2))
        obtain ⟨pb', po', hpa, hcb, _, _⟩ := Ss.read (SrcV.below HP.out.1 hbY) k hkl
        simp only [Option.some.injEq, Addr.mk.injEq, and_true] at hpa
        obtain ⟨rfl, rfl⟩ := hpa
        rw [← HX.out] at hcb
        have HE : Hid (A ++ x = cs ls (k + 1) ∧ tz (ls.take (k + 1)) ≤ 51 * (k + 1) ∧ Below w.heap.size w Y ∧ ∃ L, Fls Y b (b + 1) b L ∧ St true ls f L (k + 1)) := ⟨H.out.2.2.2.2.2.2.1.symm, H.out.2.2.2.2.2.2.2.2.1, hbY, L', hY1, HX2.out.2⟩
        have HA2 := Lib.hid (show (A ++ x).size ≤ 50 * (k + 1) by rw [H.out.2.2.2.2.2.2.1.symm]; exact H.out.2.2.2.2.2.2.2.1)
        clear hy hY1 hfY p0 p1 hbY
        go_wp2
        go_roundw
        case rel => exact ⟨k + 1, A ++ x, by omega, by go_num, rfl, HA2.out, HE⟩
        case measure => simp [RowKit.intOf]; omega
      | false =>
        go_upto_region 15 with fail
        obtain ⟨X, hX⟩ : ∃ X, X = V := ⟨_, rfl⟩
        rw [← hX] at HV
        rw [← hX]
        have hX1 := HV.out.2.1
        have hX2 := HV.out.1
        have hX3 := HV.out.2.2.1
        have hX4 := HV.out.2.2.2.1
        have hBX : b ≤ X.heap.size := Nat.le_trans HV.out.2.2.2.2.1 (Nat.le_of_lt hX2.lt)
        clear hX
        have hy := yank_any c 0 (some ⟨pb, po + k, none⟩) 1 (cp - k) (0, [x]) b (b + 1) b L X hX3 hX1 H.out.2.1.1 (by have := HCF.out.1; omega) (show tz [x] ≤ 50000 by have := H.out.2.2.2.2.2.2.2.2.2; omega) hBX
        have y1 : (yank L c ((0 : Int), [x])).1 = 0 := H.out.2.2.2.1
        have y2 : St false ls f (yank L c ((0 : Int), [x])).2 (k + 1) := H.out.2.2.2.2.1
        obtain ⟨Z, hZ⟩ : ∃ Z, Z = yank L c ((0 : Int), [x]) := ⟨_, rfl⟩
        rw [← hZ] at hy y1 y2
        obtain ⟨E, L'⟩ := Z
        simp only at y1 y2
        subst y1
        have p0 := hX2.c0
        have p1 : X.cell? ⟨g, 1, none⟩ = some (.slice (some ⟨pb, po + k, none⟩) 1 (cp - k)) := hX2.c1
        have HX2 := Lib.hid (And.intro hX4 y2)
        clear hZ hX1 hX2 hX3 hX4 hBX y2 hcb
        go_wp2_with fail
        refine hy.mono ?_
        rintro e Y ⟨rfl, hY1, hfY⟩
        simp only
        have hbY : Below w.heap.size w Y := HX2.out.1.trans (hfY.below HX2.out.1.size (fun j e => by rw [e]; exact HF2.out.2.2.2))
        obtain ⟨pb', po', hpa, hcb, _, _⟩ := Ss.read (SrcV.below HP.out.1 hbY) k hkl
        simp only [Option.some.injEq, Addr.mk.injEq, and_true] at hpa
        obtain ⟨rfl, rfl⟩ := hpa
        rw [← HX.out] at hcb
        have HE : Hid (A ++ x = cs ls (k + 1) ∧ tz (ls.take (k + 1)) ≤ 51 * (k + 1) ∧ Below w.heap.size w Y ∧ ∃ L, Fls Y b (b + 1) b L ∧ St false ls f L (k + 1)) := ⟨H.out.2.2.2.2.2.2.1.symm, H.out.2.2.2.2.2.2.2.2.1, hbY, L', hY1, HX2.out.2⟩
        have HA2 := Lib.hid (show (A ++ x).size ≤ 50 * (k + 1) by rw [H.out.2.2.2.2.2.2.1.symm]; exact H.out.2.2.2.2.2.2.2.1)
        clear hy hY1 hfY p0 p1 hbY
        go_wp2
        go_roundw
        case rel => exact ⟨k + 1, A ++ x, by omega, by go_num, rfl, HA2.out, HE⟩
        case measure => simp [RowKit.intOf]; omega
    · obtain rfl : k = N := by omega
      obtain ⟨hcs, htz, hbw, L, hfl, hst⟩ := HR.out
      obtain ⟨h1, h2⟩ := hst.2.2 HN.out.1
      have hrf : reg f = f := by unfold reg; have := HCF.out; rw [if_neg (by omega), if_neg (by omega)]
      obtain ⟨RN, hRN⟩ : ∃ RN, RN = Rk q ls k := ⟨_, rfl⟩
      rw [← hRN] at h1 h2
      have hg1 : Calls Try.prog 21 #[.pointer (some ⟨b + 1, 0, none⟩), .int .u8 (f : Int)] wr fun e w' => RbOut wr b RN true e w' := by
        have h := get_any f b (b + 1) b L wr hfl hst.1 (by have := HCF.out; omega) (Nat.le_of_lt hfl.blt)
        rw [hrf, h1] at h
        exact h
      have hg2 : ∀ W, Below wr.heap.size wr W → Calls Try.prog 21 #[.pointer (some ⟨b + 1, 0, none⟩), .int .u8 0] W fun e w' => RbOut W b RN true e w' := fun W hW => by
        have h := get_any 0 b (b + 1) b L W (hfl.below hW) hst.1 (by omega) (Nat.le_of_lt (hfl.below hW).blt)
        rw [show reg 0 = 34 from rfl, h2] at h
        exact h
      have v2 := HVV.out.1
      have v2' := HVV.out.2
      have HW := Lib.hid (And.intro hbw (And.intro hRN hcs))
      have hBw : b ≤ wr.heap.size := Nat.le_of_lt hfl.blt
      clear hcs htz hbw hfl hst h1 h2 hrf hRN HR v1 v1'
      go_wp2_with fail
      refine hg1.mono ?_
      rintro e v1 ⟨⟨k1, a1, n1', c1⟩, rfl, he1, hb1⟩
      simp only [rv, sv]
      go_upto_region 19 with fail
      obtain ⟨v1', hv1⟩ : ∃ v1', v1' = v1.alloc (.cells #[.int .i64 k1, .slice a1 n1' c1] 33) := ⟨_, rfl⟩
      have hb1' : Below v1.heap.size v1 v1' := by rw [hv1]; exact one_below _ _
      have hr1 : RegAt v1' v1.heap.size (k1, a1, n1', c1) := by rw [hv1]; exact RegAt.new v1 (k1, a1, n1', c1)
      obtain ⟨u1, hu1⟩ : ∃ u1, u1 = v1.heap.size := ⟨_, rfl⟩
      rw [← hu1] at hr1
      rw [← hv1, ← hu1]
      have G1 := Lib.hid (And.intro (below_on hb1 hb1') (And.intro hr1 (he1.below hb1')))
      clear hv1 hb1' hr1 hu1 he1 hb1
      clear hg1 v2 v2'
      go_wp2_with fail
      refine (hg2 _ G1.out.1).mono ?_
      rintro e v2 ⟨⟨k2, a2, n2', c2⟩, rfl, he2, hb2⟩
      simp only [rv, sv]
      go_upto_region 20 with fail
      obtain ⟨v2', hv2⟩ : ∃ v2', v2' = v2.alloc (.cells #[.int .i64 k2, .slice a2 n2' c2] 33) := ⟨_, rfl⟩
      have hb2' : Below v2.heap.size v2 v2' := by rw [hv2]; exact one_below _ _
      have hr2 : RegAt v2' v2.heap.size (k2, a2, n2', c2) := by rw [hv2]; exact RegAt.new v2 (k2, a2, n2', c2)
      obtain ⟨u2, hu2⟩ : ∃ u2, u2 = v2.heap.size := ⟨_, rfl⟩
      rw [← hu2] at hr2
      rw [← hv2, ← hu2]
      have G2 := Lib.hid (And.intro (below_on hb2 hb2') (And.intro hr2 (he2.below hb2')))
      clear hv2 hb2' hr2 hu2 he2 hb2
      clear hg2
      go_upto_region 21 with fail
      obtain ⟨x1, x2, x3, x4⟩ := one_reg v2' b 0 A
      obtain ⟨V, hV⟩ : ∃ V, V = rg1 v2' 0 A := ⟨_, rfl⟩
      rw [← hV] at x1 x2 x3 x4
      have hV' : V = (v2'.alloc (.cells #[.string A] 9)).alloc (.cells #[.int .i64 0, .slice (some ⟨v2'.heap.size, 0, none⟩) 1 1] 33) := hV
      rw [← hV']
      obtain ⟨aw, haw⟩ : ∃ aw : Option Addr, aw = some ⟨v2'.heap.size, 0, none⟩ := ⟨_, rfl⟩
      have hbg : b ≤ v2'.heap.size + 1 := by have := G1.out.1.size; have := G2.out.1.size; omega
      have hwg : w.heap.size ≤ v2'.heap.size + 1 := by have := HW.out.1.size; have := G1.out.1.size; have := G2.out.1.size; omega
      obtain ⟨gw, hgw⟩ : ∃ gw, gw = v2'.heap.size + 1 := ⟨_, rfl⟩
      rw [← haw] at x2 x3
      rw [← hgw] at x2 hbg hwg
      rw [← hgw, ← haw]
      have hbv := below_on (below_on G1.out.1 G2.out.1) x1
      have HV := Lib.hid (And.intro x2 (And.intro x3 (And.intro (HW.out.1.trans (hbv.mono HW.out.1.size)) (And.intro (G1.out.2.1.below (below_on G2.out.1 x1) G1.out.2.1.lt) (And.intro (G1.out.2.2.below (below_on G2.out.1 x1)) (And.intro (G2.out.2.1.below x1 G2.out.2.1.lt) (And.intro (G2.out.2.2.below x1) (And.intro hbg (And.intro hwg hBw)))))))))
      have hu12 : ¬ u1 = gw ∧ ¬ u2 = gw := by
        have h1 := G1.out.2.1.lt
        have h2 := G2.out.2.1.lt
        have h3 := G2.out.1.size
        omega
      have HU := Lib.hid hu12
      clear hV hV' haw hgw x1 x2 x3 x4 hbv hbg hwg hu12 hBw
      cases q with
      | true =>
        have m0 := HV.out.1.c0
        have m1 : V.cell? ⟨gw, 1, none⟩ = some (.slice aw 1 1) := HV.out.1.c1
        have z := HV.out.1.z
        have hfX := (((Fr.refl (fun j => j = gw) V).setCell (p := ⟨gw, 0, none⟩) (fun _ => rfl) (.int .i64 1)).setCell (p := ⟨gw, 1, none⟩) (fun _ => rfl) (.slice pa k cp))
        have hro : ∀ j, j = gw → ¬ Ro V b j := fun j e => by subst e; exact HV.out.1.ro HV.out.2.2.2.2.2.2.2.1
        have hX1 : RegAt ((V.setCell ⟨gw, 0, none⟩ (.int .i64 1)).setCell ⟨gw, 1, none⟩ (.slice pa k cp)) gw (1, pa, k, cp) := HV.out.1.set (1, pa, k, cp)
        have hX2 := HV.out.2.2.2.1.fr hfX HU.out.1
        have hX3 := HV.out.2.2.2.2.1.fr hfX hro
        have hX4 := HV.out.2.2.2.2.2.1.fr hfX HU.out.2
        have hX5 := HV.out.2.2.2.2.2.2.1.fr hfX hro
        have hX6 : Below w.heap.size w ((V.setCell ⟨gw, 0, none⟩ (.int .i64 1)).setCell ⟨gw, 1, none⟩ (.slice pa k cp)) := (HV.out.2.2.1.setCell (p := ⟨gw, 0, none⟩) HV.out.2.2.2.2.2.2.2.2.1 (.int .i64 1)).setCell (p := ⟨gw, 1, none⟩) HV.out.2.2.2.2.2.2.2.2.1 (.slice pa k cp)
        go_upto_region 23 with fail
        obtain ⟨X, hX⟩ : ∃ X, X = (V.setCell ⟨gw, 0, none⟩ (.int .i64 1)).setCell ⟨gw, 1, none⟩ (.slice pa k cp) := ⟨_, rfl⟩
        rw [← hX] at hX1 hX2 hX3 hX4 hX5 hX6
        rw [← hX]
        have hRk : RN = (1, ls) := by
          rw [HW.out.2.1]
          unfold Rk
          rw [if_pos rfl, List.take_of_length_le (by rw [HP.out.2.2]; exact Nat.le_refl _)]
        have hX7 : El X b (1, pa, k, cp) RN := by
          rw [hRk]
          exact ⟨rfl, SrcV.below HP.out.1 (hX6.mono (Nat.le_refl _)), fun h0 j hj => .inl (by
            have h1 := SrcV.blkLt HP.out.1 (show 0 < k * 1 by have : 0 < k := h0; omega) j hj
            have h2 := HF2.out.2.2.2
            omega)⟩
        clear hX m0 m1 z hfX hro hRk
        have p0 := hX2.c0
        have p1 : X.cell? ⟨u1, 1, none⟩ = some (.slice a1 n1' c1) := hX2.c1
        have q0 := hX1.c0
        have q1 : X.cell? ⟨gw, 1, none⟩ = some (.slice pa k cp) := hX1.c1
        have HZ := Lib.hid (And.intro hX1 (And.intro hX3 (And.intro hX4 (And.intro hX5 (And.intro hX6 hX7)))))
        clear hX1 hX2 hX3 hX4 hX5 hX6 hX7
        go_wp2_with fail
        refine (reg_true HZ.out.2.1 HZ.out.2.2.2.2.2).mono ?_
        rintro e v5 ⟨rfl, hb5⟩
        have B5 := Lib.hid hb5
        clear p0 p1 q0 q1 hb5
        have p0 := (HZ.out.2.2.1.below B5.out HZ.out.2.2.1.lt).c0
        have p1 : v5.cell? ⟨u2, 1, none⟩ = some (.slice a2 n2' c2) := (HZ.out.2.2.1.below B5.out HZ.out.2.2.1.lt).c1
        have q0 := (HZ.out.1.below B5.out HZ.out.1.lt).c0
        have q1 : v5.cell? ⟨gw, 1, none⟩ = some (.slice pa k cp) := (HZ.out.1.below B5.out HZ.out.1.lt).c1
        go_wp2_with fail
        refine (reg_true (HZ.out.2.2.2.1.below B5.out) (HZ.out.2.2.2.2.2.below B5.out)).mono ?_
        rintro e v6 ⟨rfl, hb6⟩
        have HE := Lib.hid (HZ.out.2.2.2.2.1.trans ((below_on B5.out hb6).mono HZ.out.2.2.2.2.1.size))
        clear p0 p1 q0 q1 hb6
        go_wp2
        go_ret
        exact ⟨rfl, HE.out⟩
      | false =>
        go_upto_region 23 with fail
        have hX1 := HV.out.1
        have hX2 := HV.out.2.2.2.1
        have hX3 := HV.out.2.2.2.2.1
        have hX4 := HV.out.2.2.2.2.2.1
        have hX5 := HV.out.2.2.2.2.2.2.1
        have hX6 := HV.out.2.2.1
        have hX7 : El V b (0, aw, 1, 1) RN := by
          have h := HV.out.2.1
          rw [HW.out.2.1]
          unfold Rk
          rw [if_neg (by decide), ← HW.out.2.2]
          exact h
        have p0 := hX2.c0
        have p1 : V.cell? ⟨u1, 1, none⟩ = some (.slice a1 n1' c1) := hX2.c1
        have q0 := hX1.c0
        have q1 : V.cell? ⟨gw, 1, none⟩ = some (.slice aw 1 1) := hX1.c1
        have HZ := Lib.hid (And.intro hX1 (And.intro hX3 (And.intro hX4 (And.intro hX5 (And.intro hX6 hX7)))))
        clear hX1 hX2 hX3 hX4 hX5 hX6 hX7
        go_wp2_with fail
        refine (reg_true HZ.out.2.1 HZ.out.2.2.2.2.2).mono ?_
        rintro e v5 ⟨rfl, hb5⟩
        have B5 := Lib.hid hb5
        clear p0 p1 q0 q1 hb5
        have p0 := (HZ.out.2.2.1.below B5.out HZ.out.2.2.1.lt).c0
        have p1 : v5.cell? ⟨u2, 1, none⟩ = some (.slice a2 n2' c2) := (HZ.out.2.2.1.below B5.out HZ.out.2.2.1.lt).c1
        have q0 := (HZ.out.1.below B5.out HZ.out.1.lt).c0
        have q1 : v5.cell? ⟨gw, 1, none⟩ = some (.slice aw 1 1) := (HZ.out.1.below B5.out HZ.out.1.lt).c1
        go_wp2_with fail
        refine (reg_true (HZ.out.2.2.2.1.below B5.out) (HZ.out.2.2.2.2.2.below B5.out)).mono ?_
        rintro e v6 ⟨rfl, hb6⟩
        have HE := Lib.hid (HZ.out.2.2.2.2.1.trans ((below_on B5.out hb6).mono HZ.out.2.2.2.2.1.size))
        clear p0 p1 q0 q1 hb6
        go_wp2
        go_ret
        exact ⟨rfl, HE.out⟩
end Go.Proofs.Ytgfajagajiofnaa.RAp
