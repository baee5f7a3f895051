/-
  One change of lines, as the law BufChanges reckons it.
-/
import Derived.Test.YtfllgmgipmmpkaaGreatDoorBEmp
import Derived.Deep.RegionHeld3
import Derived.BigQuiet
set_option linter.unusedVariables false
set_option linter.unusedSimpArgs false
set_option maxRecDepth 100000
namespace Go.Proofs.YtfllgmgipmmpkaaGreatDoor.BCh
open Go Go.RowKit Go.Proofs.YtfllgmgipmmpkaaGreatDoor.Vk Go.Proofs.YtfllgmgipmmpkaaGreatDoor.Tm Go.Proofs.YtfllgmgipmmpkaaGreatDoor.Tf Go.Proofs.YtfllgmgipmmpkaaGreatDoor.Bf Go.Proofs.YtfllgmgipmmpkaaGreatDoor.Lm Go.Shelf Go.Proofs.YtfllgmgipmmpkaaGreatDoor.BEmp
attribute [local go_sem] Oper.semAt_some

theorem same2_any (a : Option Addr) (n c : Nat) (a' : Option Addr) (c' : Nat) (ls : List ByteArray) (w : World) (h : Ss w a n c ls) (h' : Ss w a' n c' ls) (hn : n ≤ 1000000) :
    Calls Tryz.prog 59 #[.slice a n c, .slice a' n c'] w fun e w' => e = .returned (.bool true) ∧ ∃ m, w' = w.drewN m := by
  have hlen := h.length
  go_enter Tryz.func59, Tryz.ntmps59
  go_wp2
  go_loopw [5] (fun i wr => ∃ k : Nat, k ≤ n ∧ i = .int .i64 k ∧ Hid (∃ m, wr = w.drewN m)) (fun i _ => n - (RowKit.intOf i).toNat)
  case atStart => exact ⟨0, Nat.zero_le _, rfl, 0, rfl⟩
  case round =>
    obtain ⟨k, hk, rfl, hw⟩ := hrel
    by_cases hkn : k < n
    · obtain ⟨m, rfl⟩ := hw.out
      obtain ⟨b, o, rfl, hc, hnc, _⟩ := h.read k (by omega)
      obtain ⟨b', o', rfl, hc', hnc', _⟩ := h'.read k (by omega)
      clear h h'
      generalize ls[k]'(by omega) = st at *
      go_wp2
      go_quiet (fail)
      go_wp2
      go_roundw
      case rel => exact ⟨k + 1, by omega, by go_num, m + nq, rfl⟩
      case measure => simp [RowKit.intOf]; omega
    · obtain rfl : k = n := by omega
      obtain ⟨m, rfl⟩ := hw.out
      go_wp2
      go_ret
      exact ⟨rfl, m, rfl⟩

/-- What a change comes to: nothing, if no line would be left; else the lines with it made. -/
def OneOut (ls new : List ByteArray) (i k K : Nat) (w : World) (e : Ending) (w' : World) : Prop := Below w.heap.size w w' ∧
  ((K = 0 ∧ e = .returned (.tuple #[.slice none 0 0, .bool false])) ∨ (K ≠ 0 ∧ ∃ rb rk rc, e = .returned (.tuple #[.slice rb rk rc, .bool true]) ∧ Ss w' rb rk rc (rep ls i k new) ∧ ∀ j, blk (.slice rb rk rc) = some j → w.heap.size ≤ j))

set_option maxHeartbeats 4000000 in
theorem one_any (sb so n c : Nat) (ls : List ByteArray) (i k : Nat) (A : Addr) (oa : Option Addr) (oc0 : Nat) (na : Option Addr) (nn nc : Nat) (new : List ByteArray) (w : World)
    (h : Ss w (some ⟨sb, so, none⟩) n c ls) (hn : n ≤ 40) (hik : i + k ≤ n) (hA : (if c = i then (some ⟨sb, so, none⟩ : Option Addr) else some ⟨sb, so + i, none⟩) = some A) (hpart : Ss w (some A) k (c - i) ((ls.drop i).take k)) (hold : Ss w oa k oc0 ((ls.drop i).take k)) (hnew : Ss w na nn nc new) (hnn : nn ≤ 40) :
    Calls Tryz.prog 36 #[.slice (some ⟨sb, so, none⟩) n c, .agg #[.int .i64 i, .slice oa k oc0, .slice na nn nc]] w fun e w' => OneOut ls new i k (n - k + nn) w e w' := by
  obtain ⟨i0, hi0, hz0, hz1, hz2⟩ := info_parts infoS
  have hln := h.length
  have hnl := hnew.length
  have hcc : n ≤ c ∧ c ≤ 9223372036854775807 := by
    rcases h.2.2.2 with ⟨_, h, h0⟩ | ⟨_, _, _, h, h1, h2, _⟩
    · simp only [Value.slice.injEq] at h; omega
    · simp only [Value.slice.injEq] at h; unfold maxLen at h2; omega
  obtain ⟨w0, hw0⟩ : ∃ w0, w0 = w.alloc (.cells #[.int .i64 i, .slice oa k oc0, .slice na nn nc] 42) := ⟨_, rfl⟩
  have hb0 : Below w.heap.size w w0 := by rw [hw0]; exact (Below.refl _ w).alloc (Nat.le_refl _) _
  have hzw : w0.heap.size = w.heap.size + 1 := by rw [hw0]; simp
  have hrow0 : w0.heap[w.heap.size]? = some (.cells #[.int .i64 i, .slice oa k oc0, .slice na nn nc] 42 (0, 0)) := by rw [hw0]; exact World.alloc_heap_new w _
  have e0 : w0.cell? ⟨w.heap.size, 0, none⟩ = some (.int .i64 i) := (cell_of_row w0 _ 0 _ _ _ hrow0).trans (by simp)
  have e1 : w0.cell? ⟨w.heap.size, 1, none⟩ = some (.slice oa k oc0) := (cell_of_row w0 _ 1 _ _ _ hrow0).trans (by simp)
  have e2 : w0.cell? ⟨w.heap.size, 2, none⟩ = some (.slice na nn nc) := (cell_of_row w0 _ 2 _ _ _ hrow0).trans (by simp)
  obtain ⟨mm, hmk⟩ : ∃ mm : Nat, mm = i + k := ⟨_, rfl⟩
  have hold0 := SrcV.below hold hb0
  have hpart0 := SrcV.below hpart hb0
  have hsame : ∀ m, Calls Tryz.prog 59 #[.slice (some A) k (c - i), .slice oa k oc0] (w0.drewN m) fun e w'' => e = .returned (.bool true) ∧ ∃ m, w'' = w0.drewN m := fun m =>
    (same2_any _ k _ _ _ _ (w0.drewN m) (hpart0.fr ((Fr.refl (fun _ => False) w0).drewN m) (by simp)) (hold0.fr ((Fr.refl (fun _ => False) w0).drewN m) (by simp)) (by omega)).mono fun e w' ⟨he, m', hm'⟩ => ⟨he, m + m', by rw [hm', World.drewN_drewN]⟩
  have hw_1 : IntKind.i64.wrap ((n : Int) - (i : Int)) = (n : Int) - (i : Int) := by rw [IntKind.wrap_i64]; omega
  have hw_2 : IntKind.i64.wrap ((i : Int) + (k : Int)) = (mm : Int) := by rw [IntKind.wrap_i64]; omega
  have hw_3 : IntKind.i64.wrap ((n : Int) - (k : Int)) = (n : Int) - (k : Int) := by rw [IntKind.wrap_i64]; omega
  obtain ⟨K, hK⟩ : ∃ K : Nat, K = n - k + nn := ⟨_, rfl⟩
  have hw_4 : IntKind.i64.wrap ((n : Int) - (k : Int) + (nn : Int)) = (K : Int) := by rw [IntKind.wrap_i64]; omega
  have d1 : decide ((n : Int) - (i : Int) < (k : Int)) = false := decide_eq_false (by omega)
  have hin : i ≤ n := by omega
  have him : i ≤ mm := by omega
  have hmn : mm ≤ n := by omega
  have hmc : mm ≤ c := by omega
  have hic : i ≤ c := by omega
  have d2 : mm - i = k := by omega
  have HS := Lib.hid h
  have HN := Lib.hid hnew
  have HB0 := Lib.hid hb0
  have HW0 := Lib.hid hw0
  have HM := Lib.hid hmk
  have HK := Lib.hid hK
  have HIK := Lib.hid hik
  have hmx : Tryz.prog.follows .mixedOrders = true := by kernel_rfl
  clear h hpart hold hnew hpart0 hold0 hb0 hrow0 hmk hK hik
  go_enter Tryz.func36, Tryz.ntmps36
  go_wp2
  rw [← HW0.out]
  clear hw0
  by_cases hK0 : K = 0
  · have hkz : ((K : Int) == 0) = true := by simp; omega
    have HK0 := Lib.hid hK0
    clear hK0
    go_quiet (exact hsame _)
    go_wp2
    go_ret2
    exact ⟨((HB0.out).trans ((((Fr.refl (fun _ => False) w0).drewN nq).below (Nat.le_refl _) (by simp)).mono (by omega))), .inl ⟨by have := HK.out; have := HK0.out; omega, rfl⟩⟩
  · have hkz : ((K : Int) == 0) = false := by rw [beq_eq_false_iff_ne]; omega
    have HK0 := Lib.hid hK0
    clear hK0
    go_quiet (exact hsame _)
    obtain ⟨W1, hW1⟩ : ∃ W1, W1 = w0.drewN nq := ⟨_, rfl⟩
    have hf1 : Fr (fun _ => False) w0 W1 := by rw [hW1]; exact (Fr.refl _ w0).drewN nq
    rw [← hW1]
    clear hW1
    have hb1 : Below w.heap.size w W1 := HB0.out.trans (hf1.below (B := w.heap.size) (by omega) (by simp))
    have hz1' := hb1.size
    have E0 := hf1.cell e0 (by simp)
    have E1 := hf1.cell e1 (by simp)
    have E2 := hf1.cell e2 (by simp)
    have hzw1 := hf1.size
    have hs1 := SrcV.below HS.out hb1
    have hlt1 : SrcV W1 1 (.slice (some ⟨sb, so, none⟩) i c) i ((ls.map Value.string).take i) := hs1.take (by omega)
    have HB1 := Lib.hid hb1
    have HS1 := Lib.hid hs1
    clear hf1 hb1 hs1 e0 e1 e2
    go_wp2_with (at_builtin; go_must (refine append_srcv _ rfl _ _ 22 rfl W1.heap.size ES i0 (.string ⟨#[]⟩) 1 16 underS hi0 hz0 hz1 hz2 rfl (by decide) _ 0 [] rfl (World.ownsRow_nil W1 W1.heap.size ES 1) _ i ((ls.map Value.string).take i) rfl hlt1 (by simp only [maxLen]; omega) (by omega) (Nat.le_refl _) ?_); intro ob oc w2 hown hg hnr; clear hlt1)
    simp only [Nat.zero_add, List.nil_append] at hown ⊢
    have hf2 : Fr (fun _ => False) W1 w2 := (Fr.refl _ W1).grown hg (by intro k hk; simp [Value.ownBlock, Act.eval] at hk)
    have hzw2 := hf2.size
    have E0' := hf2.cell E0 (by simp)
    have E1' := hf2.cell E1 (by simp)
    have E2' := hf2.cell E2 (by simp)
    have hs2 : Ss w2.drew (some ⟨sb, so, none⟩) n c ls := SrcV.fr HS1.out hf2.drew (by simp)
    have hn2 : Ss w2.drew na nn nc new := SrcV.below HN.out (HB1.out.trans (hf2.drew.below (B := w.heap.size) HB1.out.size (by simp)))
    obtain ⟨A2, hA2, hld6⟩ := SrcV.drop hs2 (k := mm) (by omega)
    have hdb : 0 < n - mm → ∀ j, blk (.slice (some A2) (n - mm) (c - mm)) = some j → ¬ W1.heap.size ≤ j := fun h j hj hle => by
      obtain ⟨A1, hA1, hld1⟩ := SrcV.drop HS1.out (k := mm) (by omega)
      obtain rfl : A1 = A2 := Option.some.inj (hA1.symm.trans hA2)
      have := SrcV.blkLt hld1 (by omega) j hj
      omega
    have HDB := Lib.hid hdb
    have HLD := Lib.hid hld6
    have HO := Lib.hid hown
    have HF2 := Lib.hid hf2
    have hW1w2 : W1.heap.size ≤ w2.heap.size := hzw2
    have hdo : ∀ g, (Value.slice ob i oc).ownBlock = some g → W1.heap.size ≤ g := fun g hg => (hown.lt g hg).1
    have HDO := Lib.hid hdo
    have hS0 : w2.drew.cell? ⟨w.heap.size, 0, none⟩ = some (.int .i64 (i : Int)) ∧ w2.drew.cell? ⟨w.heap.size, 1, none⟩ = some (.slice oa k oc0) ∧ w2.drew.cell? ⟨w.heap.size, 2, none⟩ = some (.slice na nn nc) := ⟨E0', E1', E2'⟩
    have hwo : w.heap.size < W1.heap.size := by omega
    clear hg hnr hf2 hown hs2 hld6 hdb hdo E0 E1 E2
    refine wp_region_held (S := fun w' => w'.cell? ⟨w.heap.size, 0, none⟩ = some (.int .i64 (i : Int)) ∧ w'.cell? ⟨w.heap.size, 1, none⟩ = some (.slice oa k oc0) ∧ w'.cell? ⟨w.heap.size, 2, none⟩ = some (.slice na nn nc)) hmx ?_
    refine wpAnyH_take (i := 0) (v := .slice ob i oc) rfl (by kernel_rfl) (by kernel_rfl) (by kernel_rfl) (fun _ _ _ h => h) (Or.inl ⟨by rfl, fun w' hw => by obtain ⟨s0, s1, s2⟩ := hw; go_simp⟩) hS0 ?_
    try simp only [Act.put]
    refine wpAnyH_take (i := 1) (v := .pointer (some ⟨w.heap.size, 2, none⟩)) rfl (by kernel_rfl) (by kernel_rfl) (by kernel_rfl) (fun _ _ _ h => h) (Or.inl ⟨by rfl, fun w' hw => by obtain ⟨s0, s1, s2⟩ := hw; go_simp⟩) hS0 ?_
    try simp only [Act.put]
    refine wpAnyH_take (i := 2) (v := .slice na nn nc) rfl (by kernel_rfl) (by kernel_rfl) (by kernel_rfl) (fun _ _ _ h => h) (Or.inl ⟨by rfl, fun w' hw => by obtain ⟨s0, s1, s2⟩ := hw; go_simp⟩) hS0 ?_
    try simp only [Act.put]
    refine wpAnyH_take (i := 4) (v := .slice (some ⟨sb, so, none⟩) n c) rfl (by kernel_rfl) (by kernel_rfl) (by kernel_rfl) (fun _ _ _ h => h) (Or.inl ⟨by rfl, fun w' hw => by obtain ⟨s0, s1, s2⟩ := hw; go_simp⟩) hS0 ?_
    try simp only [Act.put]
    refine wpAnyH_take (i := 5) (v := .pointer (some ⟨w.heap.size, 0, none⟩)) rfl (by kernel_rfl) (by kernel_rfl) (by kernel_rfl) (fun _ _ _ h => h) (Or.inl ⟨by rfl, fun w' hw => by obtain ⟨s0, s1, s2⟩ := hw; go_simp⟩) hS0 ?_
    try simp only [Act.put]
    refine wpAnyH_take (i := 6) (v := .int .i64 (i : Int)) rfl (by kernel_rfl) (by kernel_rfl) (by kernel_rfl) (fun _ _ _ h => h) (Or.inl ⟨by rfl, fun w' hw => by obtain ⟨s0, s1, s2⟩ := hw; go_simp⟩) hS0 ?_
    try simp only [Act.put]
    refine wpAnyH_take (i := 7) (v := .pointer (some ⟨w.heap.size, 1, none⟩)) rfl (by kernel_rfl) (by kernel_rfl) (by kernel_rfl) (fun _ _ _ h => h) (Or.inl ⟨by rfl, fun w' hw => by obtain ⟨s0, s1, s2⟩ := hw; go_simp⟩) hS0 ?_
    try simp only [Act.put]
    refine wpAnyH_take (i := 8) (v := .slice oa k oc0) rfl (by kernel_rfl) (by kernel_rfl) (by kernel_rfl) (fun _ _ _ h => h) (Or.inl ⟨by rfl, fun w' hw => by obtain ⟨s0, s1, s2⟩ := hw; go_simp⟩) hS0 ?_
    try simp only [Act.put]
    refine wpAnyH_take (i := 9) (v := .int .i64 (k : Int)) rfl (by kernel_rfl) (by kernel_rfl) (by kernel_rfl) (fun _ _ _ h => h) (Or.inl ⟨by rfl, fun w' hw => by obtain ⟨s0, s1, s2⟩ := hw; go_simp⟩) hS0 ?_
    try simp only [Act.put]
    refine wpAnyH_take (i := 10) (v := .int .i64 (mm : Int)) rfl (by kernel_rfl) (by kernel_rfl) (by kernel_rfl) (fun _ _ _ h => h) (Or.inl ⟨by rfl, fun w' hw => by obtain ⟨s0, s1, s2⟩ := hw; go_simp⟩) hS0 ?_
    try simp only [Act.put]
    refine wpAnyH_take (i := 11) (v := .slice (some A2) (n - mm) (c - mm)) rfl (by kernel_rfl) (by kernel_rfl) (by kernel_rfl) (fun _ _ _ h => h) (Or.inl ⟨by rfl, fun w' hw => by obtain ⟨s0, s1, s2⟩ := hw; go_simp⟩) hS0 ?_
    try simp only [Act.put]
    refine wpAnyH_ready (rs := [3]) (by kernel_rfl) (by simp) ?_
    refine AllReadyH.cons rfl (fun K hK => ?_) AllReadyH.nil
    refine step_append_srcv rfl (.tmp 62) (.tmp 64) 22 rfl W1.heap.size ES i0 (.string ⟨#[]⟩) 1 16 underS hi0 hz0 hz1 hz2 rfl (by decide) (.slice ob i oc) (i) ((ls.map Value.string).take i) (by simp [Act.eval]) (ownsRow_fr HO.out (Fr.refl (fun _ => False) w2).drew (by simp)) (.slice na nn nc) (nn) (new.map .string) (by simp [Act.eval]) hn2 (by simp only [maxLen]; omega) (by omega) hW1w2 ?_
    intro b8 c8 w8 h8 g8 n8
    have f8 : Fr (fun j => W1.heap.size ≤ j) w2.drew w8 := (Fr.refl _ _).grown g8 (by intro jj hk _; exact HDO.out jj (by simpa [Act.eval] using hk))
    have hd8 : SrcV w8 1 (.slice (some A2) (n - mm) (c - mm)) (n - mm) ((ls.map Value.string).drop mm) := HLD.out.fr f8 HDB.out
    have hs8 : W1.heap.size ≤ w8.heap.size := Nat.le_trans hW1w2 f8.size
    have hS8 := And.intro (f8.cell hS0.1 (by simp; omega)) (And.intro (f8.cell hS0.2.1 (by simp; omega)) (f8.cell hS0.2.2 (by simp; omega)))
    have F8 := Lib.hid f8
    clear g8 n8 f8
    refine hK.out _ _ hS8 (fun _ => ?_)
    clear hK K
    try simp only [Act.put]
    refine wpAnyH_ready (rs := [12]) (by kernel_rfl) (by simp) ?_
    refine AllReadyH.cons rfl (fun K hK => ?_) AllReadyH.nil
    refine step_append_srcv rfl (.tmp 65) (.tmp 73) 22 rfl W1.heap.size ES i0 (.string ⟨#[]⟩) 1 16 underS hi0 hz0 hz1 hz2 rfl (by decide) (.slice b8 (i + nn) c8) (i + nn) ((ls.map Value.string).take i ++ new.map .string) (by simp [Act.eval]) h8 (.slice (some A2) (n - mm) (c - mm)) (n - mm) ((ls.map Value.string).drop mm) (by simp [Act.eval]) hd8 (by simp only [maxLen]; omega) (by omega) hs8 ?_
    intro nb mc w5 h9 g9 n9
    have f9 : Fr (fun j => W1.heap.size ≤ j) w8 w5 := (Fr.refl _ _).grown g9 (by intro jj hk _; exact (h8.lt jj (by simpa [Act.eval] using hk)).1)
    have hS9 := And.intro (f9.cell hS8.1 (by simp; omega)) (And.intro (f9.cell hS8.2.1 (by simp; omega)) (f9.cell hS8.2.2 (by simp; omega)))
    have F9 := Lib.hid f9
    have H9 := Lib.hid h9
    clear g9 n9 f9 h9
    refine hK.out _ _ hS9 (fun _ => ?_)
    clear hK K
    try simp only [Act.put]
    refine wpAnyH_take (i := 13) (v := .slice nb (i + nn + (n - mm)) mc) rfl (by kernel_rfl) (by kernel_rfl) (by kernel_rfl) (fun _ _ _ h => h) (Or.inl ⟨by rfl, fun w' hw => by obtain ⟨s0, s1, s2⟩ := hw; go_simp⟩) hS9 ?_
    try simp only [Act.put]
    refine wpAnyH_take (i := 14) (v := .bool true) rfl (by kernel_rfl) (by kernel_rfl) (by kernel_rfl) (fun _ _ _ h => h) (Or.inl ⟨by rfl, fun w' hw => by obtain ⟨s0, s1, s2⟩ := hw; go_simp⟩) hS9 ?_
    try simp only [Act.put]
    refine wpAnyH_done (by kernel_rfl) ?_ _
    go_simp
    go_wp2
    go_ret2
    have hRm : (ls.map Value.string).take i ++ new.map Value.string ++ (ls.map Value.string).drop mm = (rep ls i k new).map Value.string := by rw [rep, HM.out]; simp
    have hRl : i + nn + (n - mm) = (rep ls i k new).length := by rw [rep_length ls new i k (by rw [hln]; exact HIK.out), hln, hnl]; have := HM.out; have := HIK.out; omega
    have h9 := H9.out
    rw [hRm] at h9
    have hf5 : Fr (fun j => W1.heap.size ≤ j) W1 w5 := (HF2.out.mono (fun _ _ h => h.elim)).trans (((Fr.refl _ w2).drew).trans (F8.out.trans F9.out))
    have hng : ∀ g, blk (.slice nb (i + nn + (n - mm)) mc) = some g → w.heap.size ≤ g := fun g hg => Nat.le_trans hz1' (h9.lt g (by
      cases nb with
      | none => simp [blk] at hg
      | some x => simpa [blk, Value.ownBlock] using hg)).1
    refine ⟨HB1.out.trans (hf5.below (B := w.heap.size) hz1' (fun j hj => by omega)), .inr ⟨by have := HK.out; have := HK0.out; omega, nb, _, mc, rfl, SrcV.ofOwn h9 (one_cells _), hng⟩⟩
end Go.Proofs.YtfllgmgipmmpkaaGreatDoor.BCh
