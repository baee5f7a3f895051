/-
  A list of one change, applied to lines.
-/
import Derived.Test.YtfllgmgipmmpkaaGreatDoorBc
set_option linter.unusedVariables false
set_option linter.unusedSimpArgs false
set_option maxRecDepth 100000
namespace Go.Proofs.YtfllgmgipmmpkaaGreatDoor.BCh
open Go Go.RowKit Go.Proofs.YtfllgmgipmmpkaaGreatDoor.Vk Go.Proofs.YtfllgmgipmmpkaaGreatDoor.Tm Go.Proofs.YtfllgmgipmmpkaaGreatDoor.Tf Go.Proofs.YtfllgmgipmmpkaaGreatDoor.Bf Go.Proofs.YtfllgmgipmmpkaaGreatDoor.Lm Go.Shelf Go.Proofs.YtfllgmgipmmpkaaGreatDoor.BEmp
attribute [local go_sem] Oper.semAt_some

/-- What stands ahead of a round of Apply: the lines' own copy, or the lines with the change made. -/
def ARel (ls new : List ByteArray) (i k K : Nat) (w w1 : World) (out0 : Value) (u6 u7 : Value) (wr : World) : Prop :=
  (u7 = .int .i64 0 ∧ u6 = out0 ∧ wr = w1) ∨ (u7 = .int .i64 1 ∧ K ≠ 0 ∧ Below w.heap.size w wr ∧ ∃ rb rk rc, u6 = .slice rb rk rc ∧ Ss wr rb rk rc (rep ls i k new) ∧ ∀ j, blk (.slice rb rk rc) = some j → w.heap.size ≤ j)

set_option maxHeartbeats 4000000 in
theorem apply_any (a : Option Addr) (n c : Nat) (ls : List ByteArray) (i k : Nat) (sc : Nat) (oa : Option Addr) (oc0 : Nat) (na : Option Addr) (nn nc : Nat) (new : List ByteArray) (w : World)
    (h : Ss w a n c ls) (hn0 : 0 < n) (hn : n ≤ 40) (hik : i + k ≤ n) (hold : Ss w oa k oc0 ((ls.drop i).take k)) (hnew : Ss w na nn nc new) (hnn : nn ≤ 40)
    (e0 : w.cell? ⟨sc, 0, none⟩ = some (.int .i64 i)) (e1 : w.cell? ⟨sc, 1, none⟩ = some (.slice oa k oc0)) (e2 : w.cell? ⟨sc, 2, none⟩ = some (.slice na nn nc)) :
    Calls Tryz.prog 19 #[.slice a n c, .slice (some ⟨sc, 0, none⟩) 1 1] w fun e w' => OneOut ls new i k (n - k + nn) w e w' := by
  obtain ⟨i0, hi0, hz0, hz1, hz2⟩ := info_parts infoS
  have hlen := h.length
  have HOLD := Lib.hid hold
  have HNEW := Lib.hid hnew
  clear hold hnew
  go_enter Tryz.func19, Tryz.ntmps19
  go_wp2_with (at_builtin; go_must (refine append_srcv _ rfl _ _ 22 rfl w.heap.size ES i0 (.string ⟨#[]⟩) 1 16 underS hi0 hz0 hz1 hz2 rfl (by decide) _ 0 [] rfl (World.ownsRow_nil w w.heap.size ES 1) _ n (ls.map .string) rfl h (by simp only [maxLen]; omega) (by omega) (Nat.le_refl _) ?_); intro ob oc w1 hown hg hnr)
  simp only [Nat.zero_add, List.nil_append] at hown ⊢
  have hf1 : Fr (fun _ => False) w w1 := (Fr.refl _ w).grown hg (by intro k hk; simp [Value.ownBlock, Act.eval] at hk)
  have hb1 : Below w.heap.size w w1 := hf1.below (Nat.le_refl _) (by simp)
  have E0 := hf1.cell e0 (by simp)
  have E1 := hf1.cell e1 (by simp)
  have E2 := hf1.cell e2 (by simp)
  have hs1 : Ss w1 ob n oc ls := SrcV.ofOwn hown (one_cells ls)
  obtain ⟨sb, so, rfl, _, _, _⟩ := Ss.read hs1 0 (by omega)
  obtain ⟨A, hA, hld⟩ := SrcV.drop hs1 (k := i) (by omega)
  have hpart : Ss w1 (some A) k (oc - i) ((ls.drop i).take k) := by
    have := SrcV.take hld (k := k) (by omega)
    rw [← List.map_drop, ← List.map_take] at this
    exact this
  have hone := one_any sb so n oc ls i k A oa oc0 na nn nc new w1 hs1 hn hik hA hpart (SrcV.below HOLD.out hb1) (SrcV.below HNEW.out hb1) hnn
  obtain ⟨K, hK⟩ : ∃ K : Nat, K = n - k + nn := ⟨_, rfl⟩
  rw [← hK] at hone
  have HB1 := Lib.hid hb1
  have hz1' := hb1.size
  have HK := Lib.hid hK
  clear hown hg hnr hf1 hb1 h e0 e1 e2 hs1 hA hld hpart hK
  go_wp2_with fail
  go_loopw [6, 7] (fun u6 u7 wr => Hid (ARel ls new i k K w w1 (.slice (some ⟨sb, so, none⟩) n oc) u6 u7 wr)) (fun _ u7 _ => 1 - (RowKit.intOf u7).toNat)
  case atStart => exact .inl ⟨rfl, rfl, rfl⟩
  case round =>
    rcases hrel.out with ⟨rfl, rfl, rfl⟩ | ⟨rfl, hK, hb2, rb, rk, rc, rfl, hs2, hng⟩
    · go_wp2_with fail
      refine hone.mono ?_
      rintro e w2 ⟨hb2, ⟨hK0, rfl⟩ | ⟨hK0, rb, rk, rc, rfl, hs2, hng⟩⟩
      · have hbf := HB1.out.trans (hb2.mono hz1')
        clear hone hb2
        go_wp2
        go_ret2
        exact ⟨hbf, .inl ⟨by have := HK.out; omega, rfl⟩⟩
      · have hbf := Lib.hid (HB1.out.trans (hb2.mono hz1'))
        have HS2 := Lib.hid (And.intro hs2 (fun j hj => Nat.le_trans hz1' (hng j hj)))
        clear hone hb2 hs2 hng
        go_wp2
        go_roundw
        case rel => exact .inr ⟨rfl, hK0, hbf.out, rb, rk, rc, rfl, HS2.out⟩
        case measure => simp [RowKit.intOf]
    · have hbf := Lib.hid hb2
      have HS2 := Lib.hid (And.intro hs2 hng)
      clear hb2 hs2 hone hng
      go_wp2
      go_ret2
      exact ⟨hbf.out, .inr ⟨by have := HK.out; omega, rb, rk, rc, rfl, HS2.out⟩⟩
end Go.Proofs.YtfllgmgipmmpkaaGreatDoor.BCh
