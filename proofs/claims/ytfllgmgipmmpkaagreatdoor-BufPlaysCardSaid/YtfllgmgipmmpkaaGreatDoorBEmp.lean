/-
  The law BufEmpty, walked.
-/
import Derived.Test.YtfllgmgipmmpkaaGreatDoorBLim
import Derived.Deep.RegionLaw
set_option linter.unusedVariables false
set_option linter.unusedSimpArgs false
set_option maxRecDepth 100000
namespace Go.Proofs.YtfllgmgipmmpkaaGreatDoor.BEmp
open Go Go.RowKit Go.Proofs.YtfllgmgipmmpkaaGreatDoor.Vk Go.Proofs.YtfllgmgipmmpkaaGreatDoor.Tm Go.Proofs.YtfllgmgipmmpkaaGreatDoor.Tf Go.Proofs.YtfllgmgipmmpkaaGreatDoor.Bf Go.Proofs.YtfllgmgipmmpkaaGreatDoor.Lm Go.Shelf
attribute [local go_sem] Oper.semAt_some

theorem ss_nil (w : World) : Ss w none 0 0 [] := SrcV.nil w 1
theorem one_cells (ls : List ByteArray) : ∀ u ∈ ls.map Value.string, u.oneCell' = true := by simp [Value.oneCell']
theorem nw_nil_len (ls : List ByteArray) (k : Nat) : (jn (nw ls k [])).length ≤ 1 := by unfold nw lst; split <;> simp [jn]

set_option maxHeartbeats 2000000 in
theorem walk (a : Option Addr) (n c : Nat) (ls : List ByteArray) (at_ n_ : Int) (w : World) (hs : Ss w a n c ls) (hsb : ∀ s ∈ ls, s.size ≤ 140737488355328) (hat : (Lit.int .u8 at_).wf = true) (hnn : (Lit.int .u8 n_).wf = true) (hm : MaxOk w) :
    Calls Tryz.prog 7 #[.slice a n c, .int .u8 at_, .int .u8 n_] w fun e w' => e = .returned (.bool true) ∧ Below w.heap.size w w' := by
  have hn63 : n ≤ 9223372036854775807 := by have := hs.2.2.1; unfold maxLen at this; omega
  have hkn := known_any w hm
  have ha2 : 0 ≤ at_ ∧ at_ ≤ 255 := by simpa [Lit.wf, IntKind.min, IntKind.max, IntKind.signed, IntKind.bits] using hat
  have hn2 : 0 ≤ n_ ∧ n_ ≤ 255 := by simpa [Lit.wf, IntKind.min, IntKind.max, IntKind.signed, IntKind.bits] using hnn
  go_enter Tryz.func7, Tryz.ntmps7
  go_wp2_with fail
  refine hkn.mono ?_
  rintro e w1 ⟨rfl, hb1⟩
  have htx := text_any a n c ls w1 (SrcV.below hs hb1) hn63 hsb
  have HB1 := Lib.hid hb1
  clear hkn
  go_wp2_with fail
  refine htx.mono ?_
  rintro e w' ⟨q, rfl, rfl, hq⟩
  clear htx
  cases q
  · go_wp2
    go_ret
    exact ⟨rfl, HB1.out⟩
  obtain ⟨hn0, hn40, hj, hcl⟩ := hq rfl
  clear hq hn63
  have hlen := hs.length
  have hne : ls ≠ [] := by rintro rfl; simp at hlen; omega
  have hnew := new_ok a n c ls w1 (SrcV.below hs hb1) (by omega) hcl (by rw [lst_id hne]; omega)
  rw [lst_id hne] at hnew
  have HS := Lib.hid hs
  have hz1 := hb1.size
  clear hb1 hs
  go_wp2_with fail
  refine hnew.mono ?_
  rintro e w2 ⟨b, F, np, rfl, hbuf, hb2⟩
  have hb02 : Below w.heap.size w w2 := HB1.out.trans (hb2.mono hz1)
  have hrep := replace_ok hbuf 0 ls.length none 0 0 [] (ss_nil w2) (by omega) (by omega) (fun s h => by simp at h) (by rw [← nw_rep ls [] 0 ls.length (by omega)]; simp [rep, lst, jn]) (by omega)
  rw [← nw_rep ls [] 0 ls.length (by omega), show lst (rep ls 0 ls.length []) = [⟨#[]⟩] by simp [rep, lst], hlen] at hrep
  have hlt := fun k hk => hbuf.lt (k := k) hk
  have HB2 := Lib.hid hb02
  have hz2 := hb02.size
  have hus := nw_nil_len ls n
  clear hnew hbuf hb2 hb02
  go_wp2_with fail
  refine hrep.mono ?_
  rintro e w3 ⟨rfl, hc3⟩
  have hb03 : Below w.heap.size w w3 := HB2.out.trans (hc3.below (B := w.heap.size) hz2 (fun k hk => by have := (hlt k hk).1; omega))
  obtain ⟨F3, ed3, np3, hbuf3, _, _⟩ := hc3
  have hz3 := hb03.size
  have hx3 : Ss (w3.alloc (.cells #[.string ⟨#[]⟩] ES)) (some ⟨w3.heap.size, 0, none⟩) 1 1 [⟨#[]⟩] := ss_lit w3 [⟨#[]⟩] ES 1 rfl (by omega)
  have hbW : Below w3.heap.size w3 (w3.alloc (.cells #[.string ⟨#[]⟩] ES)) := (Below.refl _ w3).alloc (Nat.le_refl _) _
  have hwh := whole_any (hbuf3.below hbW) (hm.below (hb03.trans (hbW.mono hz3))) (by omega) _ 1 1 hx3
  have HB3 := Lib.hid (hb03.trans (hbW.mono hz3))
  clear hrep hbuf3 hb03 hx3 hbW
  go_wp2_with fail
  refine hwh.mono ?_
  rintro e w4 ⟨rfl, hb4⟩
  have hb04 : Below w.heap.size w w4 := HB3.out.trans (hb4.mono HB3.out.size)
  have hnew := new_ok a n c ls w4 (SrcV.below HS.out hb04) (by omega) hcl (by rw [lst_id hne]; omega)
  rw [lst_id hne] at hnew
  have HB4 := Lib.hid hb04
  have hz4 := hb04.size
  clear hwh hb4 hb04
  go_wp2_with fail
  refine hnew.mono ?_
  rintro e w5 ⟨b5, F5, np5, rfl, hbuf5, hb5⟩
  have hb05 : Below w.heap.size w w5 := HB4.out.trans (hb5.mono hz4)
  obtain ⟨i, hti, hin⟩ : ∃ i : Nat, at_.tmod (n : Int) = (i : Int) ∧ i < n := by
    have h1 := Int.tmod_lt_of_pos at_ (b := (n : Int)) (by omega)
    have h2 := Int.tmod_nonneg (n : Int) ha2.1
    exact ⟨(at_.tmod n).toNat, by omega, by omega⟩
  obtain ⟨k, htk, hkn⟩ : ∃ k : Nat, n_.tmod ((n : Int) - (i : Int) + 1) = (k : Int) ∧ i + k ≤ n := by
    have h1 := Int.tmod_lt_of_pos n_ (b := (n : Int) - (i : Int) + 1) (by omega)
    have h2 := Int.tmod_nonneg ((n : Int) - (i : Int) + 1) hn2.1
    exact ⟨(n_.tmod ((n : Int) - (i : Int) + 1)).toNat, by omega, by omega⟩
  have hw_1 : IntKind.i64.wrap at_ = at_ := by rw [IntKind.wrap_i64]; omega
  have hw_2 : IntKind.i64.wrap n_ = n_ := by rw [IntKind.wrap_i64]; omega
  have hw_3 : IntKind.i64.wrap ((n : Int) - (i : Int)) = (n : Int) - (i : Int) := by rw [IntKind.wrap_i64]; omega
  have hw_4 : IntKind.i64.wrap ((n : Int) - (i : Int) + 1) = (n : Int) - (i : Int) + 1 := by rw [IntKind.wrap_i64]; omega
  obtain ⟨m, hmk⟩ : ∃ m : Nat, m = i + k := ⟨_, rfl⟩
  have hw_5 : IntKind.i64.wrap ((i : Int) + (k : Int)) = (m : Int) := by rw [IntKind.wrap_i64]; omega
  have hnz : ((n : Int) - (i : Int) + 1 == 0) = false := by rw [beq_eq_false_iff_ne]; omega
  have hjl := rep_jn_len ls (nw ls k []) i k (by omega)
  have hus2 := nw_nil_len ls k
  have hfit : (jn (rep ls i k (nw ls k []))).length ≤ 4096 := by omega
  have hrep := replace_ok hbuf5 i k none 0 0 [] (ss_nil w5) (by omega) (by omega) (fun s h => by simp at h) hfit (by omega)
  have hlt5 := fun k hk => hbuf5.lt (k := k) hk
  have HB5 := Lib.hid hb05
  have HIN := Lib.hid (And.intro hin hkn)
  have hz5 := hb05.size
  have HJ := Lib.hid hjl
  clear hnew hbuf5 hb5 hb05 hjl
  go_wp2_with fail
  refine hrep.mono ?_
  rintro e w6 ⟨rfl, hc6⟩
  have hb06 : Below w.heap.size w w6 := HB5.out.trans (hc6.below (B := w.heap.size) hz5 (fun k hk => by have := (hlt5 k hk).1; omega))
  obtain ⟨F6, ed6, np6, hbuf6, _, _⟩ := hc6
  have hz6 := hb06.size
  rw [← nw_rep ls [] i k (by omega)] at hbuf6
  have HBUF := Lib.hid hbuf6
  have HB6 := Lib.hid hb06
  have hs6 : Ss w6.drew a n c ls := SrcV.below HS.out hb06.drew
  obtain ⟨sb, so, rfl, hcs, hnc, _⟩ := Ss.read hs6 0 (by omega)
  have hlt6 : SrcV w6.drew 1 (.slice (some ⟨sb, so, none⟩) i c) i ((ls.map Value.string).take i) := hs6.take (by omega)
  obtain ⟨A, hA, hld6⟩ := SrcV.drop hs6 (k := m) (by omega)
  have hdb : 0 < n - (i + k) → ∀ j, blk (.slice (some A) (n - m) (c - m)) = some j → ¬ w6.heap.size ≤ j := fun h j hj => by
    have := hld6.blkLt (by omega) j hj
    have : w6.drew.heap.size = w6.heap.size := rfl
    omega
  obtain ⟨i0, hi0, hz0, hz1', hz2'⟩ := info_parts infoS
  have hcc : c ≤ 9223372036854775807 := by
    rcases hs6.2.2.2 with ⟨_, h, h0⟩ | ⟨_, _, _, h, h1, h2, _⟩
    · omega
    · simp only [Value.slice.injEq] at h; unfold maxLen at h2; omega
  have HDB := Lib.hid hdb
  have HLD := Lib.hid hld6
  have HLT := Lib.hid hlt6
  have hic : i ≤ c := by omega
  have hikc : m ≤ n := by omega
  have hikc2 : m ≤ c := by omega
  have HMK := Lib.hid hmk
  clear hrep hbuf6 hb06 hs6 hcs hlt6 hld6 hdb hmk
  go_wp2
  go_region_law (first
    | (refine step_append_srcv rfl (.const (.slice none 0 0)) (.tmp 68) 22 rfl w6.heap.size ES i0 (.string ⟨#[]⟩) 1 16 underS hi0 hz0 hz1' hz2' rfl (by decide) (.slice none 0 0) 0 [] (by first | (simp [Act.eval]; done) | simp [Act.eval, Act.put]) (World.ownsRow_nil w6.drew w6.heap.size ES 1) (.slice (some ⟨sb, so, none⟩) i c) i ((ls.map Value.string).take i) (by first | (simp [Act.eval]; done) | simp [Act.eval, Act.put]) HLT.out (by simp only [maxLen]; omega) (by omega) (Nat.le_refl _) ?_
       intro b7 c7 w7 h7 g7 n7
       have f7 : Fr (fun _ => False) w6.drew w7 := (Fr.refl _ _).grown g7 (by intro jj hk; simp [Value.ownBlock] at hk)
       have hs7 := f7.size
       have hld7 := HLD.out.fr f7 (by simp)
       have F7 := Lib.hid f7
       simp only [Nat.zero_add, List.nil_append] at h7
       clear g7 n7 f7)
    | (refine step_append_srcv rfl (.tmp 69) (.tmp 74) 22 rfl w6.heap.size ES i0 (.string ⟨#[]⟩) 1 16 underS hi0 hz0 hz1' hz2' rfl (by decide) (.slice b7 i c7) i ((ls.map Value.string).take i) (by first | (simp [Act.eval]; done) | simp [Act.eval, Act.put]) h7 (.slice (some A) (n - m) (c - m)) (n - m) ((ls.map Value.string).drop m) (by first | (simp [Act.eval]; done) | simp [Act.eval, Act.put]) hld7 (by simp only [maxLen]; omega) (by omega) hs7 ?_
       intro b8 c8 w8 h8 g8 n8
       have f8 : Fr (fun j => w6.heap.size ≤ j) w7 w8 := (Fr.refl _ _).grown g8 (by intro jj hk _; exact (h7.lt jj (by simpa [Act.eval] using hk)).1)
       have F8 := Lib.hid f8
       have H8 := Lib.hid h8
       clear g8 n8 f8 h8))
  obtain ⟨R, hR⟩ : ∃ R, R = rep ls i k [] := ⟨_, rfl⟩
  have hRm : (ls.map Value.string).take i ++ (ls.map Value.string).drop m = R.map Value.string := by rw [hR, rep, HMK.out]; simp
  have hRl : R.length = i + (n - m) := by rw [hR, rep_length ls [] i k (by omega), HMK.out]; simp; omega
  have hRc : NoLf R := by rw [hR]; exact rep_clean i k hcl (fun s h => by simp at h)
  obtain ⟨K, hK⟩ : ∃ K, K = i + (n - m) := ⟨_, rfl⟩
  have hf8 : Fr (fun j => w6.heap.size ≤ j) w6 w8 := ((Fr.drew (Fr.refl _ w6)).trans (F7.out.mono (fun _ _ h => h.elim))).trans F8.out
  have hb68 : Below w6.heap.size w6 w8 := hf8.below (Nat.le_refl _) (fun j hj => hj)
  have h8 := H8.out
  rw [hRm] at h8
  have hs8 := SrcV.ofOwn h8 (one_cells R)
  have hb08 : Below w.heap.size w w8 := HB6.out.trans (hb68.mono hz6)
  have hz8 := hb08.size
  have hbuf8 := HBUF.out.below hb68
  rw [← hR] at hbuf8
  have HB8 := Lib.hid hb08
  rw [← hK] at hs8 ⊢
  have HRL := Lib.hid (And.intro hRl hK)
  clear hRm hf8 h8 H8 hR hRl hK
  by_cases hK0 : K = 0
  · have hkz : ((K : Int) == 0) = true := by simp; omega
    have hR0 : R = [] := List.length_eq_zero_iff.1 (by have := HRL.out; omega)
    rw [hR0, show lst [] = [⟨#[]⟩] from rfl] at hbuf8
    have hx8 : Ss (w8.alloc (.cells #[.string ⟨#[]⟩] ES)) (some ⟨w8.heap.size, 0, none⟩) 1 1 [⟨#[]⟩] := ss_lit w8 [⟨#[]⟩] ES 1 rfl (by omega)
    have hbW : Below w8.heap.size w8 (w8.alloc (.cells #[.string ⟨#[]⟩] ES)) := (Below.refl _ w8).alloc (Nat.le_refl _) _
    have hwh := whole_any (hbuf8.below hbW) (hm.below (hb08.trans (hbW.mono hz8))) (by omega) _ 1 1 hx8
    have HB9 := Lib.hid (hb08.trans (hbW.mono hz8))
    have HK0 := Lib.hid hK0
    clear hbuf8 hx8 hbW hs8 hb08 hK0 hb68 hR0
    go_wp2_with fail
    refine hwh.mono ?_
    rintro e w9 ⟨rfl, hb9⟩
    have hbf := HB9.out.trans (hb9.mono HB9.out.size)
    clear hwh hb9
    go_wp2
    go_ret
    exact ⟨rfl, hbf⟩
  · have hkz : ((K : Int) == 0) = false := by simp; omega
    rw [lst_id (by rintro rfl; have := HRL.out; simp at this; omega)] at hbuf8
    have hwh := whole_any hbuf8 (hm.below hb08) (by omega) _ K _ hs8
    have HK0 := Lib.hid hK0
    clear hbuf8 hs8 hb08 hK0 hb68
    go_wp2_with fail
    refine hwh.mono ?_
    rintro e w9 ⟨rfl, hb9⟩
    have hbf := HB8.out.trans (hb9.mono HB8.out.size)
    clear hwh hb9
    go_wp2
    go_ret
    exact ⟨rfl, hbf⟩
end Go.Proofs.YtfllgmgipmmpkaaGreatDoor.BEmp
