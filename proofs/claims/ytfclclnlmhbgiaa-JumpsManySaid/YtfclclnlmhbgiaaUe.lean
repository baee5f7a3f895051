/-
  The chapter's example, as the statements ask it first.
-/
import Derived.Test.YtfclclnlmhbgiaaUx
set_option linter.unusedVariables false
set_option linter.unusedSimpArgs false
set_option maxRecDepth 100000
namespace Go.Proofs.Ytfclclnlmhbgiaa.Jp
open Go Go.RowKit Go.Proofs.Ytfclclnlmhbgiaa.Vk Go.Proofs.Ytfclclnlmhbgiaa.Str Go.Proofs.Ytfclclnlmhbgiaa.Ln Go.Proofs.Ytfclclnlmhbgiaa.Cl Go.Proofs.Ytfclclnlmhbgiaa.Ml Go.Proofs.Ytfclclnlmhbgiaa.Mk Go.Shelf
attribute [local go_sem] Oper.semAt_some

theorem new_e (w : World) : Calls Try.prog 7 #[] w fun e w' => ∃ l, e = .returned (.pointer (some ⟨l, 0, none⟩)) ∧ LstE w' l [] 0 ∧ Below w.heap.size w w' ∧ w.heap.size ≤ l :=
  (new_any w).mono fun e w' ⟨l, p, h1, h2, h3, h4⟩ => ⟨l, h1, ⟨_, p, none, h2⟩, h3, h4⟩

theorem LstE.newer' {w w' : World} {l : Nat} {ps : List P2} {at' : Nat} (h : LstE w l ps at') (hb : Below w.heap.size w w') (n : Int) (hn : ps.length ≤ 16) (hat : at' ≤ ps.length) :
    Calls Try.prog 12 #[.pointer (some ⟨l, 0, none⟩), .int .i64 n] w' fun e w'' => e = .returned (ansV (nwOk ps at' n) (nwQ ps at' n)) ∧ LstE w'' l ps (if nwOk ps at' n then at' + n.toNat else at') ∧ Fr (fun k => k = l) w' w'' := (h.below hb).newer n hn hat
set_option maxHeartbeats 2000000 in
theorem known_any (w : World) : Calls Try.prog 6 #[] w fun e w' => e = .returned (.bool true) ∧ Below w.heap.size w w' := by
  go_enter Try.func6, Try.ntmps6
  go_wp2_with fail
  refine (new_e w).mono ?_
  rintro e w1 ⟨l, rfl, h1, hb1, hl⟩
  have hp := h1.push 1 0 (by decide) (by decide)
  have HP := Lib.hid hp
  have HB1 := Lib.hid hb1
  clear hp h1
  go_wp2_with fail
  refine HP.out.mono ?_
  rintro e w2 ⟨rfl, h2, hf2⟩
  have ho := h2.older 5 0 1 (by decide) (by decide)
  have HO := Lib.hid ho
  have hb2 : Below w.heap.size w w2 := HB1.out.trans (hf2.below (B := w.heap.size) HB1.out.size (fun k e => by omega))
  have HB2 := Lib.hid hb2
  clear ho h2 hf2 hb2
  go_wp2_with fail
  refine HO.out.mono ?_
  rintro e w3 ⟨rfl, h3, hf3⟩
  have e1 : ansV (olOk (pshL [] (1, 0)).length 1) (olQ (pshL [] (1, 0)) (pshL [] (1, 0)).length (5, 0) 1) = .tuple #[.agg #[.int .i64 1, .int .i64 0], .bool true] := rfl
  rw [e1]
  have h3 : LstE w3 l [(1, 0), (5, 0)] 0 := h3
  have hb3 : Below w.heap.size w w3 := HB2.out.trans (hf3.below (B := w.heap.size) HB2.out.size (fun k e => by omega))
  have hs3 := hb3.size
  have HB3 := Lib.hid hb3
  have H3 := Lib.hid h3
  clear h3 hf3 hb3 e1
  have hll3 := H3.out.lt
  obtain ⟨w4, hw4⟩ : ∃ v, v = w3.alloc (.cells #[.int .i64 1, .int .i64 0] 31) := ⟨_, rfl⟩
  obtain ⟨gp, hgp⟩ : ∃ g, g = w3.heap.size := ⟨_, rfl⟩
  have hb4 : Below w3.heap.size w3 w4 := by rw [hw4]; exact (Below.refl _ w3).alloc (Nat.le_refl _) _
  have p4 : PosAt w4 gp 1 0 := by rw [hw4, hgp]; exact PosAt.new _ _ _
  have h4 := H3.out.newer' hb4 1 (by decide) (by decide)
  have HN4 := Lib.hid h4
  have HB4 := Lib.hid hb4
  have HP4 := Lib.hid p4
  clear h4 hb4 p4
  go_wp2_with fail
  rw [← hw4, ← hgp]
  have hgl : l < gp := by omega
  have hs4 := HB4.out.size
  have hgp4 := HP4.out.lt
  clear hw4 hgp
  refine HN4.out.mono ?_
  rintro e w5 ⟨rfl, h5, hf5⟩
  have e2 : ansV (nwOk [(1, 0), (5, 0)] 0 1) (nwQ [(1, 0), (5, 0)] 0 1) = .tuple #[.agg #[.int .i64 5, .int .i64 0], .bool true] := rfl
  rw [e2]
  have h5 : LstE w5 l [(1, 0), (5, 0)] 1 := h5
  have p5 := HP4.out.fr hf5 (by omega)
  have hs5 := hf5.size
  have hb5 : Below w.heap.size w w5 := (HB3.out.trans (HB4.out.mono hs3)).trans (hf5.below (by omega) (fun k e => by omega))
  obtain ⟨w6, hw6⟩ : ∃ v, v = w5.alloc (.cells #[.int .i64 5, .int .i64 0] 31) := ⟨_, rfl⟩
  obtain ⟨gq, hgq⟩ : ∃ g, g = w5.heap.size := ⟨_, rfl⟩
  have hb6 : Below w5.heap.size w5 w6 := by rw [hw6]; exact (Below.refl _ w5).alloc (Nat.le_refl _) _
  have p6 := p5.below hb6 p5.lt
  have q6 : PosAt w6 gq 5 0 := by rw [hw6, hgq]; exact PosAt.new _ _ _
  have h6 := h5.newer' hb6 1 (by decide) (by decide)
  have HN6 := Lib.hid h6
  have HP6 := Lib.hid (And.intro p6 q6)
  have HB6 := Lib.hid (hb5.trans (hb6.mono hb5.size))
  clear h5 hf5 p5 hb5 hb6 p6 q6 h6 e2 HN4 HP4
  go_wp2_with fail
  rw [← hw6, ← hgq]
  have hgq6 : l < gq := by omega
  have hs6 := HB6.out.size
  clear hw6 hgq
  refine HN6.out.mono ?_
  rintro e w7 ⟨rfl, h7, hf7⟩
  have e3 : ansV (nwOk [(1, 0), (5, 0)] 1 1) (nwQ [(1, 0), (5, 0)] 1 1) = .tuple #[.agg #[.int .i64 0, .int .i64 0], .bool false] := rfl
  rw [e3]
  have h7 : LstE w7 l [(1, 0), (5, 0)] 1 := h7
  have p7 := HP6.out.1.fr hf7 (by omega)
  have q7 := HP6.out.2.fr hf7 (by omega)
  have hs7 := hf7.size
  have hb7 : Below w.heap.size w w7 := HB6.out.trans (hf7.below (by omega) (fun k e => by omega))
  obtain ⟨w8, hw8⟩ : ∃ v, v = w7.alloc (.cells #[.int .i64 0, .int .i64 0] 31) := ⟨_, rfl⟩
  have hb8 : Below w7.heap.size w7 w8 := by rw [hw8]; exact (Below.refl _ w7).alloc (Nat.le_refl _) _
  have h8 := (h7.below hb8).all (by decide)
  have HA := Lib.hid h8
  have HP8 := Lib.hid (And.intro (p7.below hb8 p7.lt) (q7.below hb8 q7.lt))
  have HB8 := Lib.hid (hb7.trans (hb8.mono hb7.size))
  clear h7 hf7 p7 q7 hb7 hb8 h8 e3 HN6 HP6
  go_wp2_with fail
  rw [← hw8]
  clear hw8
  refine HA.out.mono ?_
  rintro e w9 ⟨ba, ca, rfl, hsa, hb9⟩
  have z0 := (HP8.out.1.below hb9 HP8.out.1.lt).c0
  have z1 := (HP8.out.2.below hb9 HP8.out.2.lt).c0
  have HB9 := Lib.hid (HB8.out.trans (hb9.mono HB8.out.size))
  have hl2 : ([(1, 0), (5, 0)] : List P2).length = 2 := rfl
  rw [hl2]
  clear hsa hb9
  go_wp2
  all_goals go_ret
  all_goals exact ⟨rfl, HB9.out⟩
end Go.Proofs.Ytfclclnlmhbgiaa.Jp
