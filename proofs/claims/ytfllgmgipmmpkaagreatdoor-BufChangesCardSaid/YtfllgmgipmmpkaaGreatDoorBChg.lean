/-
  The law BufChanges, walked.
-/
import Derived.Test.YtfllgmgipmmpkaaGreatDoorBa
set_option linter.unusedVariables false
set_option linter.unusedSimpArgs false
set_option maxRecDepth 100000
namespace Go.Proofs.YtfllgmgipmmpkaaGreatDoor.BChg
open Go Go.RowKit Go.Proofs.YtfllgmgipmmpkaaGreatDoor.Vk Go.Proofs.YtfllgmgipmmpkaaGreatDoor.Tm Go.Proofs.YtfllgmgipmmpkaaGreatDoor.Tf Go.Proofs.YtfllgmgipmmpkaaGreatDoor.Bf Go.Proofs.YtfllgmgipmmpkaaGreatDoor.Lm Go.Shelf Go.Proofs.YtfllgmgipmmpkaaGreatDoor.BEmp Go.Proofs.YtfllgmgipmmpkaaGreatDoor.BCh
attribute [local go_sem] Oper.semAt_some

theorem rep_back (ls new : List ByteArray) (i k : Nat) (h : i + k ≤ ls.length) : rep (rep ls i k new) i new.length ((ls.drop i).take k) = ls := by
  have e1 : (rep ls i k new).take i = ls.take i := by
    rw [rep, List.append_assoc]; exact List.take_left' (by simp; omega)
  have e2 : (rep ls i k new).drop (i + new.length) = ls.drop (i + k) := by
    rw [rep]; exact List.drop_left' (by simp; omega)
  have e3 : ls.drop (i + k) = (ls.drop i).drop k := by rw [List.drop_drop]
  rw [rep, e1, e2, e3, List.append_assoc, List.take_append_drop, List.take_append_drop]
theorem nw_new {ls new : List ByteArray} {k : Nat} (h : k = ls.length → new ≠ []) : nw ls k new = new := by
  unfold nw; split
  · exact lst_id (h (by assumption))
  · rfl
theorem jn_part (ls : List ByteArray) (i k : Nat) : (jn ((ls.drop i).take k)).length ≤ (jn ls).length := by
  have h1 := jn_len_take (ls.drop i) k
  have h2 : (jn (ls.take i)).length + (jn (ls.drop i)).length = (jn ls).length := by rw [← List.length_append, ← jn_append, List.take_append_drop]
  omega

set_option maxHeartbeats 4000000 in
theorem walk (a : Option Addr) (n c : Nat) (ls : List ByteArray) (at_ n_ : Int) (na : Option Addr) (nn nc : Nat) (new : List ByteArray) (w : World) (hs : Ss w a n c ls) (hsb : ∀ s ∈ ls, s.size ≤ 140737488355328) (hat : (Lit.int .u8 at_).wf = true) (hnu : (Lit.int .u8 n_).wf = true) (hnew : Ss w na nn nc new) (hnb : ∀ s ∈ new, s.size ≤ 140737488355328) (hm : MaxOk w) :
    Calls Tryz.prog 5 #[.slice a n c, .int .u8 at_, .int .u8 n_, .slice na nn nc] w fun e w' => e = .returned (.bool true) ∧ Below w.heap.size w w' := by
  have hn63 : n ≤ 9223372036854775807 := by have := hs.2.2.1; unfold maxLen at this; omega
  have hm63 : nn ≤ 9223372036854775807 := by have := hnew.2.2.1; unfold maxLen at this; omega
  have hkn := known_any w hm
  have ha2 : 0 ≤ at_ ∧ at_ ≤ 255 := by simpa [Lit.wf, IntKind.min, IntKind.max, IntKind.signed, IntKind.bits] using hat
  have hn2 : 0 ≤ n_ ∧ n_ ≤ 255 := by simpa [Lit.wf, IntKind.min, IntKind.max, IntKind.signed, IntKind.bits] using hnu
  go_enter Tryz.func5, Tryz.ntmps5
  go_wp2_with fail
  refine hkn.mono ?_
  rintro e w1 ⟨rfl, hb1⟩
  have htx := text_any a n c ls w1 (SrcV.below hs hb1) hn63 hsb
  have HB1 := Lib.hid hb1
  clear hkn
  go_wp2_with fail
  refine htx.mono ?_
  rintro e w' ⟨q, rfl, rfl, hq⟩
  clear htx
  cases q
  · go_wp2
    go_ret
    exact ⟨rfl, HB1.out⟩
  obtain ⟨hn0, hn40, hj, hcl⟩ := hq rfl
  have hlg := light_any na nn nc new w1 (SrcV.below hnew HB1.out) hm63 hnb
  clear hq hn63
  go_wp2_with fail
  refine hlg.mono ?_
  rintro e w' ⟨q, rfl, rfl, hq⟩
  clear hlg
  cases q
  · go_wp2
    go_ret
    exact ⟨rfl, HB1.out⟩
  obtain ⟨hnn40, hj2, hcl2⟩ := hq rfl
  clear hq hm63
  have hlen := hs.length
  have hnl := hnew.length
  have hz1 := HB1.out.size
  have hs1 := SrcV.below hs HB1.out
  obtain ⟨i, hti, hin⟩ : ∃ i : Nat, at_.tmod ((n : Int) + 1) = (i : Int) ∧ i ≤ n := by
    have h1 := Int.tmod_lt_of_pos at_ (b := (n : Int) + 1) (by omega)
    have h2 := Int.tmod_nonneg ((n : Int) + 1) ha2.1
    exact ⟨(at_.tmod ((n : Int) + 1)).toNat, by omega, by omega⟩
  obtain ⟨k, htk, hik⟩ : ∃ k : Nat, n_.tmod ((n : Int) - (i : Int) + 1) = (k : Int) ∧ i + k ≤ n := by
    have h1 := Int.tmod_lt_of_pos n_ (b := (n : Int) - (i : Int) + 1) (by omega)
    have h2 := Int.tmod_nonneg ((n : Int) - (i : Int) + 1) hn2.1
    exact ⟨(n_.tmod ((n : Int) - (i : Int) + 1)).toNat, by omega, by omega⟩
  have hw_1 : IntKind.i64.wrap at_ = at_ := by rw [IntKind.wrap_i64]; omega
  have hw_2 : IntKind.i64.wrap n_ = n_ := by rw [IntKind.wrap_i64]; omega
  have hw_6 : IntKind.i64.wrap ((n : Int) + 1) = (n : Int) + 1 := by rw [IntKind.wrap_i64]; omega
  have hw_3 : IntKind.i64.wrap ((n : Int) - (i : Int)) = (n : Int) - (i : Int) := by rw [IntKind.wrap_i64]; omega
  have hw_4 : IntKind.i64.wrap ((n : Int) - (i : Int) + 1) = (n : Int) - (i : Int) + 1 := by rw [IntKind.wrap_i64]; omega
  obtain ⟨mm, hmk⟩ : ∃ mm : Nat, mm = i + k := ⟨_, rfl⟩
  have hw_5 : IntKind.i64.wrap ((i : Int) + (k : Int)) = (mm : Int) := by rw [IntKind.wrap_i64]; omega
  have hnz : ((n : Int) - (i : Int) + 1 == 0) = false := by rw [beq_eq_false_iff_ne]; omega
  have hnz2 : ((n : Int) + 1 == 0) = false := by rw [beq_eq_false_iff_ne]; omega
  obtain ⟨sb, so, rfl, hcs, hnc, _⟩ := Ss.read hs1 0 (by omega)
  obtain ⟨A, hA, hld⟩ := SrcV.drop hs (k := i) (by omega)
  have hpart : Ss w (some A) k (c - i) ((ls.drop i).take k) := by
    have := SrcV.take hld (k := k) (by omega)
    rw [← List.map_drop, ← List.map_take] at this
    exact this
  have hic : i ≤ c := by omega
  have him : i ≤ mm := by omega
  have hmn : mm ≤ n := by omega
  have hmc : mm ≤ c := by omega
  have d2 : mm - i = k := by omega
  obtain ⟨w2, hw2⟩ : ∃ w2, w2 = w1.alloc (.cells #[.int .i64 i, .slice (some A) k (c - i), .slice na nn nc] 42) := ⟨_, rfl⟩
  have hb12 : Below w1.heap.size w1 w2 := by rw [hw2]; exact (Below.refl _ w1).alloc (Nat.le_refl _) _
  have hzw : w2.heap.size = w1.heap.size + 1 := by rw [hw2]; simp
  have hrow0 : w2.heap[w1.heap.size]? = some (.cells #[.int .i64 i, .slice (some A) k (c - i), .slice na nn nc] 42 (0, 0)) := by rw [hw2]; exact World.alloc_heap_new w1 _
  have e0 : w2.cell? ⟨w1.heap.size, 0, none⟩ = some (.int .i64 i) := (cell_of_row w2 _ 0 _ _ _ hrow0).trans (by simp)
  have e1 : w2.cell? ⟨w1.heap.size, 1, none⟩ = some (.slice (some A) k (c - i)) := (cell_of_row w2 _ 1 _ _ _ hrow0).trans (by simp)
  have e2 : w2.cell? ⟨w1.heap.size, 2, none⟩ = some (.slice na nn nc) := (cell_of_row w2 _ 2 _ _ _ hrow0).trans (by simp)
  have hnew2 := new_ok (some ⟨sb, so, none⟩) n c ls w2 (SrcV.below hs1 hb12) (by omega) hcl (by rw [lst_id (by rintro rfl; simp at hlen; omega)]; omega)
  have hne : ls ≠ [] := by rintro rfl; simp at hlen; omega
  rw [lst_id hne] at hnew2
  have HS := Lib.hid hs
  have HN := Lib.hid hnew
  have HP := Lib.hid hpart
  have HB2 := Lib.hid (HB1.out.trans (hb12.mono hz1))
  have HW2 := Lib.hid hw2
  have HMK := Lib.hid hmk
  clear hs hnew hs1 hpart hld hb12 hrow0 hcs hmk
  go_wp2_with fail
  rw [← HW2.out]
  clear hw2
  refine hnew2.mono ?_
  rintro e w3 ⟨b, F, np, rfl, hbuf, hb3⟩
  have E0 := (hb3.cell (p := ⟨w1.heap.size, 0, none⟩) (by simp; omega)).trans e0
  have E1 := (hb3.cell (p := ⟨w1.heap.size, 1, none⟩) (by simp; omega)).trans e1
  have E2 := (hb3.cell (p := ⟨w1.heap.size, 2, none⟩) (by simp; omega)).trans e2
  have HB3 := Lib.hid (HB2.out.trans (hb3.mono HB2.out.size))
  have HBUF := Lib.hid hbuf
  have HZ := Lib.hid (And.intro hzw hb3.size)
  clear hnew2 hbuf hb3 e0 e1 e2 hzw
  go_wp2_with fail
  obtain ⟨w4, hw4⟩ : ∃ w4, w4 = w3.alloc (.cells #[.int .i64 i, .slice (some A) k (c - i), .slice na nn nc] 42) := ⟨_, rfl⟩
  rw [← hw4]
  have hb34 : Below w3.heap.size w3 w4 := by rw [hw4]; exact (Below.refl _ w3).alloc (Nat.le_refl _) _
  have hzw4 : w4.heap.size = w3.heap.size + 1 := by rw [hw4]; simp
  have hrow4 : w4.heap[w3.heap.size]? = some (.cells #[.int .i64 i, .slice (some A) k (c - i), .slice na nn nc] 42 (0, 0)) := by rw [hw4]; exact World.alloc_heap_new w3 _
  have f0 : w4.cell? ⟨w3.heap.size, 0, none⟩ = some (.int .i64 i) := (cell_of_row w4 _ 0 _ _ _ hrow4).trans (by simp)
  have f1 : w4.cell? ⟨w3.heap.size, 1, none⟩ = some (.slice (some A) k (c - i)) := (cell_of_row w4 _ 1 _ _ _ hrow4).trans (by simp)
  have f2 : w4.cell? ⟨w3.heap.size, 2, none⟩ = some (.slice na nn nc) := (cell_of_row w4 _ 2 _ _ _ hrow4).trans (by simp)
  have hb04 : Below w.heap.size w w4 := HB3.out.trans (hb34.mono HB3.out.size)
  have hap := apply_any (some ⟨sb, so, none⟩) n c ls i k w3.heap.size (some A) (c - i) na nn nc new w4 (SrcV.below HS.out hb04) hn0 hn40 hik (SrcV.below HP.out hb04) (SrcV.below HN.out hb04) hnn40 f0 f1 f2
  have HB4 := Lib.hid hb04
  have HB34 := Lib.hid hb34
  have HZ4 := Lib.hid hzw4
  clear hw4 hrow4 f0 f1 f2 hb04 hb34 hzw4 E0 E1 E2
  refine hap.mono ?_
  clear hap
  rintro e w5 ⟨hb5, ⟨hK0, rfl⟩ | ⟨hK0, rb, rk, rc, rfl, hrs, hng⟩⟩
  · have hbf := Lib.hid (HB4.out.trans (hb5.mono HB4.out.size))
    clear hb5
    go_wp2
    go_ret
    exact ⟨rfl, hbf.out⟩
  have hb35 : Below w3.heap.size w3 w5 := HB34.out.trans (hb5.mono (by have := HZ4.out; omega))
  have hb05 : Below w.heap.size w w5 := HB3.out.trans (hb35.mono HB3.out.size)
  have hnwE : nw ls k new = new := nw_new (fun h0 => by rintro rfl; simp at hnl; omega)
  have hjl := rep_jn_len ls new i k (by omega)
  have hrep := replace_ok (HBUF.out.below hb35) i k na nn nc new (SrcV.below HN.out hb05) (by omega) (by omega) hcl2 (by rw [hnwE]; omega) (by omega)
  rw [hnwE] at hrep
  have hlt5 : ∀ k, F k → w2.heap.size ≤ k ∧ k < w3.heap.size := fun k hk => HBUF.out.lt hk
  have HR := Lib.hid (And.intro hrs (And.intro hng hlt5))
  have HB5 := Lib.hid hb05
  have HJ := Lib.hid hjl
  clear hb5 hb35 hb05 hrs hng hlt5 hjl
  go_wp2_with fail
  refine hrep.mono ?_
  clear hrep
  rintro e w6 ⟨rfl, F6, ed6, np6, hbuf6, hfr6, hF6⟩
  obtain ⟨hrs, hng, hlt5⟩ := HR.out
  have hz34 := HZ4.out
  have hz02 := HB2.out.size
  have hz05 := HB5.out.size
  have hrs6 : Ss w6 rb rk rc (rep ls i k new) := SrcV.fr hrs hfr6 (fun _ j hj hF => by have := hng j hj; have := (hlt5 j hF).2; omega)
  have hb06 : Below w.heap.size w w6 := HB5.out.trans (hfr6.below (B := w.heap.size) hz05 (fun x hx => by have := (hlt5 x hx).1; omega))
  have hF6' : ∀ x, F6 x → w.heap.size ≤ x := fun x hx => by
    rcases hF6 x hx with h | h
    · have := (hlt5 x h).1; omega
    · omega
  have hwh := whole_any hbuf6 (hm.below hb06) (by omega) rb rk rc hrs6
  have HBUF6 := Lib.hid hbuf6
  have HB6 := Lib.hid hb06
  have HF6 := Lib.hid hF6'
  clear hbuf6 hfr6 hF6 hF6' hrs6 hb06 hrs hng hlt5 hz34 hz02 hz05 HR
  go_wp2_with fail
  refine hwh.mono ?_
  clear hwh
  rintro e w7 ⟨rfl, hb7⟩
  have hb07 : Below w.heap.size w w7 := HB6.out.trans (hb7.mono HB6.out.size)
  have hrl : (rep ls i k new).length = n - k + nn := by rw [rep_length ls new i k (by omega), hlen, hnl]
  have hback : rep (rep ls i k new) i nn ((ls.drop i).take k) = ls := by rw [← hnl]; exact rep_back ls new i k (by omega)
  have hnw2 : nw (rep ls i k new) nn ((ls.drop i).take k) = (ls.drop i).take k := nw_new (fun h0 h1 => by
    have := congrArg List.length h1
    simp at this
    omega)
  have hjp := jn_part ls i k
  have hrep2 := replace_ok (HBUF6.out.below hb7) i nn (some A) k (c - i) ((ls.drop i).take k) (SrcV.below HP.out hb07) (by omega) (by omega) ((hcl.drop i).take k) (by rw [hnw2, hback]; omega) (by omega)
  rw [hnw2, hback] at hrep2
  have HB7 := Lib.hid hb07
  have HRL := Lib.hid hrl
  have HJP := Lib.hid hjp
  clear hb7 hb07 hrl hback hnw2 hjp
  go_wp2_with fail
  refine hrep2.mono ?_
  clear hrep2
  rintro e w8 ⟨rfl, F8, ed8, np8, hbuf8, hfr8, hF8⟩
  have hz07 := HB7.out.size
  have hb08 : Below w.heap.size w w8 := HB7.out.trans (hfr8.below (B := w.heap.size) hz07 (fun x hx => HF6.out x hx))
  have hwh := whole_any hbuf8 (hm.below hb08) (by have := HJP.out; omega) (some ⟨sb, so, none⟩) n c (SrcV.below HS.out hb08)
  have HB8 := Lib.hid hb08
  clear hbuf8 hfr8 hF8 hb08
  go_wp2_with fail
  refine hwh.mono ?_
  clear hwh
  rintro e w9 ⟨rfl, hb9⟩
  have hbf := Lib.hid (HB8.out.trans (hb9.mono HB8.out.size))
  clear hb9
  go_wp2
  go_ret
  exact ⟨rfl, hbf.out⟩
end Go.Proofs.YtfllgmgipmmpkaaGreatDoor.BChg
