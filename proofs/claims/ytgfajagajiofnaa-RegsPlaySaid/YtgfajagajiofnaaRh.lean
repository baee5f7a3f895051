/-
  The package: Names.
-/
import Derived.Test.YtgfajagajiofnaaRe
import Derived.Lib.SlBytesConst
set_option linter.unusedVariables false
set_option linter.unusedSimpArgs false
set_option maxRecDepth 100000
namespace Go.Proofs.Ytgfajagajiofnaa.Rg
open Go Go.RowKit Go.Proofs.Ytgfajagajiofnaa.Vk Go.Proofs.Ytgfajagajiofnaa.Str Go.Proofs.Ytgfajagajiofnaa.Ln Go.Proofs.Ytgfajagajiofnaa.Cl Go.Proofs.Ytgfajagajiofnaa.Rl
attribute [local go_sem] Oper.semAt_some

/-- A row of N names of one's own, made behind w. -/
def OwnU (w : World) (l : List Nat) (N : Nat) (b : Option Addr) (cc : Nat) (W : World) : Prop := l.length = N ∧ W.ownsRow w.heap.size TU 1 (.slice b N cc) N (nbs l) ∧ Below w.heap.size w W
theorem OwnU.nil (w : World) : OwnU w [] 0 none 0 w := ⟨rfl, World.ownsRow_nil _ _ _ _, Below.refl _ _⟩
theorem OwnU.built {w W : World} {l : List Nat} {N : Nat} {b : Option Addr} {cc : Nat} (h : OwnU w l N b cc W) (O : Obj) : OwnU w l N b cc (W.alloc O) :=
  ⟨h.1, ownsRow_fr h.2.1 ((Fr.refl (fun _ => False) W).alloc O) (by simp), h.2.2.alloc h.2.2.size O⟩
theorem OwnU.app {w W V : World} {l : List Nat} {N : Nat} {b ob : Option Addr} {cc oc : Nat} {c : Nat} {O : Obj} (h : OwnU w l N b cc W) (hown : V.ownsRow w.heap.size TU 1 (.slice ob (N + 1) oc) (N + 1) (nbs l ++ [.int .u8 (c : Int)]))
    (hg : (W.alloc O).grownBy V (Value.slice b N cc).ownBlock) : OwnU w (l ++ [c]) (N + 1) ob oc V := by
  refine ⟨by rw [List.length_append, h.1]; rfl, ?_, ?_⟩
  · rw [nbs_app]; exact hown
  · have := h.2.2.size
    exact (h.2.2.alloc h.2.2.size O).grown hg (by simp; omega) (fun k e => (h.2.1.lt k e).1)
theorem OwnU.src {w W : World} {l : List Nat} {N : Nat} {b : Option Addr} {cc : Nat} (h : OwnU w l N b cc W) : SrcV W 1 (.slice b N cc) N (nbs l) := SrcV.ofOwn h.2.1 (nbs_one l)
theorem SrcV.one8 (w : World) (c : Int) : SrcV (w.alloc (.cells #[.int .u8 c] TU)) 1 (.slice (some ⟨w.heap.size, 0, none⟩) 1 1) 1 [.int .u8 c] :=
  SrcV.lit w #[.int .u8 c] TU 1 rfl (by simp [Value.oneCell']) (by simp [maxLen])
/-- The row of all names. -/
def nmC : Array Value := #[.int .u8 34, .int .u8 45, .int .u8 48, .int .u8 49, .int .u8 50, .int .u8 51, .int .u8 52, .int .u8 53, .int .u8 54, .int .u8 55, .int .u8 56, .int .u8 57, .int .u8 97, .int .u8 98, .int .u8 99, .int .u8 100, .int .u8 101, .int .u8 102, .int .u8 103, .int .u8 104, .int .u8 105, .int .u8 106, .int .u8 107, .int .u8 108, .int .u8 109, .int .u8 110, .int .u8 111, .int .u8 112, .int .u8 113, .int .u8 114, .int .u8 115, .int .u8 116, .int .u8 117, .int .u8 118, .int .u8 119, .int .u8 120, .int .u8 121, .int .u8 122]
theorem nmC_at : ∀ (j : Nat) (hj : j < 38), nmC[j]? = some (.int .u8 ((nmL[j]'hj : Nat) : Int))
  | 0, _ => rfl
  | 1, _ => rfl
  | 2, _ => rfl
  | 3, _ => rfl
  | 4, _ => rfl
  | 5, _ => rfl
  | 6, _ => rfl
  | 7, _ => rfl
  | 8, _ => rfl
  | 9, _ => rfl
  | 10, _ => rfl
  | 11, _ => rfl
  | 12, _ => rfl
  | 13, _ => rfl
  | 14, _ => rfl
  | 15, _ => rfl
  | 16, _ => rfl
  | 17, _ => rfl
  | 18, _ => rfl
  | 19, _ => rfl
  | 20, _ => rfl
  | 21, _ => rfl
  | 22, _ => rfl
  | 23, _ => rfl
  | 24, _ => rfl
  | 25, _ => rfl
  | 26, _ => rfl
  | 27, _ => rfl
  | 28, _ => rfl
  | 29, _ => rfl
  | 30, _ => rfl
  | 31, _ => rfl
  | 32, _ => rfl
  | 33, _ => rfl
  | 34, _ => rfl
  | 35, _ => rfl
  | 36, _ => rfl
  | 37, _ => rfl
  | n + 38, h => by omega

theorem nmL_lt : ∀ (j : Nat) (hj : j < 38), nmL[j]'hj < 256 := by decide
theorem names_any (B m b : Nat) (L : ML G) (w : World) (h : Fls w B m b L) (hok : Ok L) : Calls Try.prog 28 #[.pointer (some ⟨m, 0, none⟩)] w fun e w' =>
    ∃ a cc, e = .returned (.slice a L.length cc) ∧ SrcV w' 1 (.slice a L.length cc) L.length (nbs (nms L)) ∧ (∀ k, blk (.slice a L.length cc) = some k → w.heap.size ≤ k) ∧ Below w.heap.size w w' := by
  obtain ⟨i0, hi0, hz0, hz1, hz2⟩ := info_parts infoU
  have kc := fun (w : World) (C : Array Value) (n c : Nat) => Lib.run_convert_bytes_const (P := Try.prog) w 27 TU C n c Try.underlying27 Try.underlying5
  go_enter Try.func28, Try.ntmps28
  go_wp2
  obtain ⟨w1, hw1⟩ : ∃ w1, w1 = w.alloc (.cells nmC TU (38, 39)) := ⟨_, rfl⟩
  have hrow : w1.heap[w.heap.size]? = some (.cells nmC TU (38, 39)) := by rw [hw1]; exact heap_alloc_new w _
  have hb1 : Below w.heap.size w w1 := by rw [hw1]; exact (Below.refl _ _).alloc (Nat.le_refl _) _
  have hsz : w1.heap.size = w.heap.size + 1 := by rw [hw1]; simp
  have h1 := h.below hb1
  show Code.wp _ _ _ _ (w.alloc (.cells nmC TU (38, 39)))
  rw [← hw1]
  have HC := Lib.hid (fun j (hj : j < 38) => (cell_of_row w1 _ j _ _ _ hrow).trans (nmC_at j hj))
  have H1 := Lib.hid h1
  have HB := Lib.hid hb1
  obtain ⟨g, hg⟩ : ∃ g, g = w.heap.size := ⟨_, rfl⟩
  rw [← hg] at HC hsz ⊢
  have HG := Lib.hid hg
  have HSZ := Lib.hid hsz
  clear hw1 hrow hb1 h1 h kc hg hsz
  go_loopw [3, 11] (fun u i wr => ∃ (j N : Nat) (a : Option Addr) (cc : Nat), j ≤ 38 ∧ u = .slice a N cc ∧ i = .int .i64 j ∧ Hid (OwnU w1 (upK L j) N a cc wr)) (fun u i _ => 38 - (RowKit.intOf i).toNat)
  case atStart => exact ⟨0, 0, none, 0, Nat.zero_le _, rfl, rfl, OwnU.nil w1⟩
  case round =>
    obtain ⟨j, N, a, cc, hj, rfl, rfl, HW⟩ := hrel
    by_cases hj38 : j < 38
    · have hN : N ≤ 38 := by have := length_upK L j; have := HW.out.1; omega
      have h2 := H1.out.below HW.out.2.2
      have hcm := h2.cell
      have hcj := cell_later HW.out.2.2 (HC.out j hj38)
      have hup := upK_succ L j hj38
      have hc256 : nmL[j]'hj38 < 256 := nmL_lt j hj38
      obtain ⟨c, hc⟩ : ∃ c, c = nmL[j]'hj38 := ⟨_, rfl⟩
      rw [← hc] at hcj hup hc256
      obtain ⟨⟨x, ya, yn, yc⟩, _, hlk⟩ := h2.look hc256
      have hlk := hlk wr (Below.refl _ _)
      simp only [rv, sv] at hlk
      clear hc h2
      cases hq : (lk L c).isSome with
      | false =>
        rw [hq] at hlk hup
        have HUP := Lib.hid (show upK L (j + 1) = upK L j by simpa using hup)
        clear hup hq
        go_wp2
        go_roundw
        case rel => exact ⟨j + 1, N, a, cc, by omega, rfl, by go_num, by rw [HUP.out]; exact HW.out.built _⟩
        case measure => simp [RowKit.intOf]; omega
      | true =>
        rw [hq] at hlk hup
        have HUP := Lib.hid (show upK L (j + 1) = upK L j ++ [c] by simpa using hup)
        have HP := Lib.hid (HW.out.built (.cells #[.int .i64 x, .slice ya yn yc] 33))
        clear hup hq
        go_wp2_with (at_builtin; go_must (refine append_srcv _ rfl _ _ 27 rfl w1.heap.size TU i0 (.int .u8 0) 1 1 underU hi0 hz0 hz1 hz2 rfl (by decide) (.slice a N cc) _ _ rfl (HP.out.built _).2.1 (.slice (some ⟨wr.heap.size + 1, 0, none⟩) 1 1) 1 [.int .u8 (c : Int)] rfl (by have := SrcV.one8 (wr.alloc (.cells #[.int .i64 x, .slice ya yn yc] 33)) (c : Int); simpa using this) (by simp only [maxLen]; omega) (by omega) (by have := HW.out.2.2.size; simp; omega) ?_); intro ob oc V hown hg hnr; have HO := Lib.hid (HP.out.app (c := c) hown hg); clear hown hg hnr)
        go_roundw
        case rel => exact ⟨j + 1, N + 1, ob, oc, by omega, rfl, by go_num, by rw [HUP.out]; exact HO.out⟩
        case measure => simp [RowKit.intOf]; omega
    · obtain rfl : j = 38 := by omega
      have ho := HW.out
      rw [upK_end hok] at ho
      have hlen : N = L.length := by rw [← ho.1]; unfold nms; rw [List.length_map]
      subst hlen
      have HF := Lib.hid (And.intro ho.src (And.intro (show ∀ k, blk (.slice a L.length cc) = some k → w.heap.size ≤ k from fun k hk => by have := (ho.2.1.lt k hk).1; have := HSZ.out; have := HG.out; omega) (HB.out.trans (ho.2.2.mono (by have := HSZ.out; have := HG.out; omega)))))
      clear ho HW
      go_wp2
      go_ret
      exact ⟨_, _, rfl, HF.out.1, HF.out.2.1, HF.out.2.2⟩
end Go.Proofs.Ytgfajagajiofnaa.Rg
