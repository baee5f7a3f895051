/-
  Tables of pieces: a string is appended to a buffer and becomes a piece.
-/
import Derived.Test.YtfllgmgipmmpkaaGreatDoorEdit
set_option linter.unusedVariables false
set_option linter.unusedSimpArgs false
set_option maxRecDepth 100000
namespace Go.Proofs.YtfllgmgipmmpkaaGreatDoor.Tb
open Go Go.RowKit Go.Proofs.YtfllgmgipmmpkaaGreatDoor.Vk Go.Shelf
open VecP (E TV)

theorem infoU : (Tryz.prog.info? TU).map (fun i => (i.zero, i.size, i.bytes)) = some (some (.int .u8 0), 1, 1) := by kernel_rfl
theorem underB : Tryz.prog.underlying 37 = some (.slice TU) := by kernel_rfl
theorem underStr : Tryz.prog.underlying 9 = some .string := by kernel_rfl

theorem bcells_append (a b : List UInt8) : bcells (a ++ b) = bcells a ++ bcells b := List.map_append
theorem bcells_str (s : ByteArray) : byteCells s = bcells s.data.toList := rfl
theorem size_str (s : ByteArray) : s.data.toList.length = s.size := by rw [Array.length_toList]; rfl

/-- Pieces of buffers that only grow stay what they are. -/
theorem Pc.grows {l0 l1 m0 m1 : List UInt8} {q : Pc} (h : q.ok (bufs l0 l1)) : q.ok (bufs (l0 ++ m0) (l1 ++ m1)) ∧ q.txt (bufs (l0 ++ m0) (l1 ++ m1)) = q.txt (bufs l0 l1) := by
  obtain ⟨h1, h2, h3⟩ := h
  unfold bufs at h3
  refine ⟨⟨h1, h2, ?_⟩, ?_⟩
  · unfold bufs; split <;> rename_i hb <;> simp only [hb, if_true, if_false] at h3 <;> rw [List.length_append] <;> omega
  · unfold Pc.txt bufs
    split <;> rename_i hb <;> simp only [hb, if_true, if_false] at h3
    · rw [List.drop_append_of_le_length (by omega), List.take_append_of_le_length (by rw [List.length_drop]; omega)]
    · rw [List.drop_append_of_le_length (by omega), List.take_append_of_le_length (by rw [List.length_drop]; omega)]

section
variable {w : World} {base t p : Nat} {r : Option Nat} {b0 : Option Addr} {c0 : Nat} {l0 : List UInt8} {b1 : Option Addr} {c1 : Nat} {l1 : List UInt8} {ps : List Pc} {T : List UInt8} {most : Int} {edits used : Nat}

theorem tot_put (ps : List Pc) (i : Nat) (q : Pc) : tot (ps.take i ++ [q] ++ ps.drop i) = tot ps + q.z := by
  rw [tot_append, tot_append]
  have : tot ps = tot (ps.take i) + tot (ps.drop i) := by rw [← tot_append, List.take_append_drop]
  have h2 : tot [q] = q.z := by simp [tot]
  omega

set_option maxHeartbeats 2000000 in
theorem place1_any (h : TabX w base t p r b0 c0 l0 b1 c1 l1 ps T most edits used) (i : Nat) (hi : i ≤ ps.length) (s : ByteArray) (hs : 0 < s.size) (hfit : (T.length : Int) + s.size ≤ most) (hT : T.length ≤ 1000000) (hn : ps.length ≤ 900000) (hu : used + s.size ≤ 1000000) :
    Calls Tryz.prog 49 #[.pointer (some ⟨t, 0, none⟩), .int .i64 i, .int .i64 1, .string s] w fun e w' => (∃ v, e = .returned v) ∧ ∃ r' b1' c1',
      TabX w' base t p r' b0 c0 l0 b1' c1' (l1 ++ s.data.toList) (ps.take i ++ [⟨1, l1.length, s.size⟩] ++ ps.drop i) (txt (bufs l0 (l1 ++ s.data.toList)) (ps.take i ++ [⟨1, l1.length, s.size⟩] ++ ps.drop i)) most edits (used + s.size) ∧
      Fr (foot t p r b0 b1) w w' ∧ (r' = r ∨ ∃ g, r' = some g ∧ w.heap.size ≤ g) ∧ (ab b1' = ab b1 ∨ ∃ g, ab b1' = some g ∧ w.heap.size ≤ g) := by
  obtain ⟨i0, hi0, hz0, hz1, hz2⟩ := info_parts infoU
  obtain ⟨k0, k1, k2, k3, k4, k5⟩ := h.cells
  have hlt : t < w.heap.size := (h.foot_lt (.inl rfl)).2
  have hu1 := h.u1
  have hrl : ∀ k, r = some k → k < w.heap.size := fun k hk => (h.vec.rowLt k hk).2
  have hne : s.toList.isEmpty = false := by
    rw [ByteArray.toList_eq]
    cases hl : s.data.toList with
    | nil => have := size_str s; rw [hl] at this; simp at this; omega
    | cons a l => rfl
  have hins := VecP.insert_one base p r ps i w.heap.size ⟨1, l1.length, s.size⟩ ((w.alloc (.cells #[.int .i64 1, .int .i64 l1.length, .int .i64 s.size] E)).drew) (h.vec.fr ((Fr.refl (fun _ => False) w).alloc _).drew (by simp) (by simp))
      (heap_alloc_new w _) (fun e => by have := hrl _ e; omega) hi (by omega)
  have hss : ∀ W, Fr (fun b => b = p ∨ r = some b) ((w.alloc (.cells #[.int .i64 1, .int .i64 l1.length, .int .i64 s.size] E)).drew) W → W.cell? ⟨t, 2, none⟩ = some (.pointer (some ⟨p, 0, none⟩)) ∧ W.cell? ⟨t, 1, none⟩ = some (.slice b1 l1.length c1) := fun W hW => by
      have hb0 : Below w.heap.size w ((w.alloc (.cells #[.int .i64 1, .int .i64 l1.length, .int .i64 s.size] E)).drew) := ((Below.refl _ w).alloc (Nat.le_refl _) _).drew
      exact ⟨hW.cell ((hb0.cell (p := ⟨t, 2, none⟩) hlt).trans k2) (fun e => e.elim (fun e => h.tp e) (fun e => h.tr e)), hW.cell ((hb0.cell (p := ⟨t, 1, none⟩) hlt).trans k1) (fun e => e.elim (fun e => h.tp e) (fun e => h.tr e))⟩
  have HSS := Lib.hid hss
  have HIN := Lib.hid hins
  have HH := Lib.hid h
  clear hss hins h k0 k3 k4 k5
  go_enter Tryz.func49, Tryz.ntmps49
  go_wp2
  go_region_held3 (fun w' => w'.cell? ⟨t, 2, none⟩ = some (.pointer (some ⟨p, 0, none⟩)) ∧ w'.cell? ⟨t, 1, none⟩ = some (.slice b1 l1.length c1))
      (first | go_keep | exact ⟨d1, d2⟩)
      (first
        | (go_at_call 68; refine HIN.out.mono ?_
           rintro e w3 ⟨rfl, r3, hv3, hf3, hr3⟩
           obtain ⟨d1, d2⟩ := HSS.out _ hf3
           have HV3 := Lib.hid (And.intro hv3 (And.intro hf3 hr3))
           clear hv3 hf3 hr3))
  clear d1 d2 k1 k2
  obtain ⟨hv3, hf3, hr3⟩ := HV3.out
  have hF : Fr (fun k => k = p ∨ r = some k) w w3 := ((Fr.refl _ w).alloc _).drew.trans hf3
  have hnS : ∀ k, foot t p r b0 b1 k → k ≠ p → r ≠ some k → ¬ (k = p ∨ r = some k) := fun k _ h1 h2 h => h.elim h1 h2
  have hhead : w3.heap[t]? = some (.cells #[.slice b0 l0.length c0, .slice b1 l1.length c1, .pointer (some ⟨p, 0, none⟩), .int .i64 T.length, .int .i64 most, .int .i64 edits] TT (0, 0)) :=
    (hF.block t hlt (fun e => e.elim HH.out.tp HH.out.tr)).trans HH.out.head
  have hrow3 : w3.ownsRow base TU 1 (.slice b1 l1.length c1) l1.length (bcells l1) := ownsRow_fr HH.out.row1 hF (fun k hk => by
      rw [ab_own] at hk
      exact fun e => e.elim (fun e => HH.out.p1 (e ▸ hk)) (fun e => HH.out.r1 e hk))
  have hs3 := hF.size
  have hbt := HH.out.bt
  have q1 : w3.cell? ⟨t, 1, none⟩ = some (.slice b1 l1.length c1) := (cell_of_row _ _ 1 _ _ _ hhead).trans (by simp)
  have hm63 := HH.out.m64
  have HHD := Lib.hid hhead
  have HR3 := Lib.hid hrow3
  have HF := Lib.hid hF
  have HV := Lib.hid (And.intro hv3 hr3)
  clear hv3 hf3 hr3 hnS hhead hrow3 hF
  have hbd : base ≤ w3.drew.heap.size := by show base ≤ w3.heap.size; omega
  have htd : t < w3.drew.heap.size := by show t < w3.heap.size; omega
  go_wp2
  go_region_law (refine step_append_strv rfl (.tmp 35) (.tmp 36) 37 9 rfl base TU i0 (.int .u8 0) 1 underB underStr hi0 hz0 hz1 hz2 rfl (.slice b1 l1.length c1) l1.length (bcells l1) (by first | (simp [Act.eval]; done) | simp [Act.eval, Act.put]) HR3.out s (by first | (simp [Act.eval]; done) | simp [Act.eval, Act.put]) hs (by simp only [maxLen]; omega) (by omega) hbd ?_
                 intro b1' c1' w4 hown4 hg4 hnr4
                 have hhead4 := (hg4.block t htd (by rw [ab_own]; exact fun e => HH.out.t1 e.symm)).trans HHD.out
                 have q4 : w4.cell? ⟨t, 1, none⟩ = some (.slice b1 l1.length c1) := (cell_of_row _ _ 1 _ _ _ hhead4).trans (by simp)
                 have q43 : w4.cell? ⟨t, 3, none⟩ = some (.int .i64 T.length) := (cell_of_row _ _ 3 _ _ _ hhead4).trans (by simp)
                 have z41 : w4.frozen? ⟨t, 1, none⟩ = false := frozen_of_row _ _ 1 _ _ hhead4
                 have z43 : w4.frozen? ⟨t, 3, none⟩ = false := frozen_of_row _ _ 3 _ _ hhead4
                 have H4 := Lib.hid (And.intro hown4 (And.intro hg4 (And.intro hnr4 hhead4)))
                 clear hown4 hg4 hnr4 hhead4)
  go_wp2
  go_end0
  obtain ⟨hown4, hg4, hnr4, hhead4⟩ := H4.out
  obtain ⟨hv3, hr3⟩ := HV.out
  have hF := HF.out
  obtain ⟨w5, hw5⟩ : ∃ w5, w5 = (w4.setCell ⟨t, 1, none⟩ (.slice b1' (l1.length + s.size) c1')).setCell ⟨t, 3, none⟩ (.int .i64 ((T.length : Int) + s.size)) := ⟨_, rfl⟩
  rw [← hw5]
  have hh5 : w5.heap[t]? = some (.cells #[.slice b0 l0.length c0, .slice b1' (l1.length + s.size) c1', .pointer (some ⟨p, 0, none⟩), .int .i64 ((T.length : Int) + s.size), .int .i64 most, .int .i64 edits] TT (0, 0)) := by
    rw [hw5, heap_setCell_same _ _ _ _ _ _ (heap_setCell_same _ _ _ _ _ _ hhead4)]; simp
  have hF5 : Fr (fun k => k = t) w4 w5 := by rw [hw5]; exact ((Fr.refl (fun k => k = t) w4).setCell (p := ⟨t, 1, none⟩) (fun _ => rfl) _).setCell (p := ⟨t, 3, none⟩) (fun _ => rfl) _
  have hF4 : Fr (fun k => ab b1 = some k) w3 w4 := ⟨hg4.os, hg4.tape, hg4.output, hg4.size, fun k hk hn => hg4.block k hk (by rw [ab_own]; exact fun e => hn e.symm)⟩
  have hFt : Fr (foot t p r b0 b1) w w5 := (hF.mono (fun k _ h => h.elim (fun h => .inr (.inl h)) (fun h => .inr (.inr (.inl h))))).trans ((hF4.mono (fun k _ h => .inr (.inr (.inr (.inr h))))).trans (hF5.mono (fun k _ h => .inl h)))
  have hnb : ab b1' = ab b1 ∨ ∃ g, ab b1' = some g ∧ w3.heap.size ≤ g := by
    rcases hnr4 with h | ⟨g, h, hg⟩
    · rw [ab_own, ab_own] at h; exact .inl h
    · rw [ab_own] at h; exact .inr ⟨g, h, hg⟩
  have hl1' : (l1 ++ s.data.toList).length = l1.length + s.size := by rw [List.length_append, size_str]
  have hnt : ab b1' ≠ some t := fun e => by
    rcases hnb with h | ⟨g, h, hg⟩
    · exact HH.out.t1 (h ▸ e)
    · rw [h] at e; injection e with e; omega
  have hrt : r3 ≠ some t := fun e => by
    rcases hr3 with h | ⟨g, h, hg⟩
    · exact HH.out.tr (h ▸ e)
    · have hgg : w.heap.size ≤ g := Nat.le_trans (by show w.heap.size ≤ (w.alloc _).heap.size; simp) hg
      rw [h] at e; injection e with e; omega
  have hokq : ∀ q ∈ ps.take i ++ [(⟨1, l1.length, s.size⟩ : Pc)] ++ ps.drop i, q.ok (bufs l0 (l1 ++ s.data.toList)) := by
    intro q hq
    simp only [List.mem_append, List.mem_singleton] at hq
    have hgr : ∀ q : Pc, q ∈ ps → q.ok (bufs l0 (l1 ++ s.data.toList)) := fun q hq => by
      have := (Pc.grows (m0 := []) (m1 := s.data.toList) (HH.out.ok q hq)).1
      rwa [List.append_nil] at this
    rcases hq with (hq | rfl) | hq
    · exact hgr q (List.mem_of_mem_take hq)
    · exact ⟨by show 1 < 2; omega, hs, by show l1.length + s.size ≤ (l1 ++ s.data.toList).length; omega⟩
    · exact hgr q (List.mem_of_mem_drop hq)
  have hT5 : (txt (bufs l0 (l1 ++ s.data.toList)) (ps.take i ++ [⟨1, l1.length, s.size⟩] ++ ps.drop i)).length = T.length + s.size := by
    rw [txt_length hokq, tot_put, HH.out.tot_len]
  have hc5 : ((T.length + s.size : Nat) : Int) = (T.length : Int) + s.size := by omega
  have hvec5 : IsVec w5 base TV E 3 p r3 (ps.take i ++ [(⟨1, l1.length, s.size⟩ : Pc)] ++ ps.drop i).length (flat (ps.take i ++ [(⟨1, l1.length, s.size⟩ : Pc)] ++ ps.drop i)) := by
    have h4 := hv3.fr hF4 HH.out.p1 (fun k hk e => by
      rcases hr3 with h | ⟨g, h, hg⟩
      · exact HH.out.r1 (h ▸ hk) e
      · have hgg : w.heap.size ≤ g := Nat.le_trans (by show w.heap.size ≤ (w.alloc _).heap.size; simp) hg
        have := (HH.out.foot_lt (.inr (.inr (.inr (.inr e))))).2
        rw [h] at hk; injection hk with hk; omega)
    exact h4.fr hF5 (fun e => HH.out.tp e.symm) (fun k hk e => hrt (e ▸ hk))
  refine ⟨⟨_, rfl⟩, r3, b1', c1', ⟨?_, HH.out.bt, ?_, ?_, hvec5, hokq, rfl, by rw [hT5, hc5]; exact hfit, HH.out.m64, by have := HH.out.u0; omega, by rw [hl1']; omega, by have := HH.out.ue; omega, ?_⟩, hFt, ?_, ?_⟩
  · rw [hT5, hl1', hc5]; exact hh5
  · have h3 := ownsRow_fr HH.out.row0 hF (fun k hk => by
      rw [ab_own] at hk
      exact fun e => e.elim (fun e => HH.out.p0 (e ▸ hk)) (fun e => HH.out.r0 e hk))
    have h4 := ownsRow_fr h3 hF4 (fun k hk => by rw [ab_own] at hk; exact HH.out.s01 k hk)
    exact ownsRow_fr h4 hF5 (fun k hk e => by rw [ab_own] at hk; exact HH.out.t0 (e ▸ hk))
  · rw [hl1', bcells_append, ← bcells_str]
    exact ownsRow_fr hown4 hF5 (fun k hk e => by rw [ab_own] at hk; exact hnt (e ▸ hk))
  · intro k hk
    rcases hnb with h | ⟨g, h, hg⟩
    · rw [h]; exact HH.out.s01 k hk
    · rw [h]; intro e; injection e with e
      have := (HH.out.foot_lt (.inr (.inr (.inr (.inl hk))))).2
      omega
  · rcases hr3 with h | ⟨g, h, hg⟩
    · exact .inl h
    · exact .inr ⟨g, h, Nat.le_trans (by show w.heap.size ≤ (w.alloc _).heap.size; simp) hg⟩
  · rcases hnb with h | ⟨g, h, hg⟩
    · exact .inl h
    · exact .inr ⟨g, h, by omega⟩
set_option maxHeartbeats 2000000 in
theorem place0_any (h : TabX w base t p r b0 c0 l0 b1 c1 l1 ps T most edits used) (i : Nat) (hi : i ≤ ps.length) (s : ByteArray) (hs : 0 < s.size) (hfit : (T.length : Int) + s.size ≤ most) (hT : T.length ≤ 1000000) (hn : ps.length ≤ 900000) (hu : used + s.size ≤ 1000000) :
    Calls Tryz.prog 49 #[.pointer (some ⟨t, 0, none⟩), .int .i64 i, .int .i64 0, .string s] w fun e w' => (∃ v, e = .returned v) ∧ ∃ r' b0' c0',
      TabX w' base t p r' b0' c0' (l0 ++ s.data.toList) b1 c1 l1 (ps.take i ++ [⟨0, l0.length, s.size⟩] ++ ps.drop i) (txt (bufs (l0 ++ s.data.toList) l1) (ps.take i ++ [⟨0, l0.length, s.size⟩] ++ ps.drop i)) most edits (used + s.size) ∧
      Fr (foot t p r b0 b1) w w' ∧ (r' = r ∨ ∃ g, r' = some g ∧ w.heap.size ≤ g) ∧ (ab b0' = ab b0 ∨ ∃ g, ab b0' = some g ∧ w.heap.size ≤ g) := by
  obtain ⟨i0, hi0, hz0, hz1, hz2⟩ := info_parts infoU
  obtain ⟨k0, k1, k2, k3, k4, k5⟩ := h.cells
  have hlt : t < w.heap.size := (h.foot_lt (.inl rfl)).2
  have hu1 := h.u0
  have hrl : ∀ k, r = some k → k < w.heap.size := fun k hk => (h.vec.rowLt k hk).2
  have hne : s.toList.isEmpty = false := by
    rw [ByteArray.toList_eq]
    cases hl : s.data.toList with
    | nil => have := size_str s; rw [hl] at this; simp at this; omega
    | cons a l => rfl
  have hins := VecP.insert_one base p r ps i w.heap.size ⟨0, l0.length, s.size⟩ ((w.alloc (.cells #[.int .i64 0, .int .i64 l0.length, .int .i64 s.size] E)).drew) (h.vec.fr ((Fr.refl (fun _ => False) w).alloc _).drew (by simp) (by simp))
      (heap_alloc_new w _) (fun e => by have := hrl _ e; omega) hi (by omega)
  have hss : ∀ W, Fr (fun b => b = p ∨ r = some b) ((w.alloc (.cells #[.int .i64 0, .int .i64 l0.length, .int .i64 s.size] E)).drew) W → W.cell? ⟨t, 2, none⟩ = some (.pointer (some ⟨p, 0, none⟩)) ∧ W.cell? ⟨t, 0, none⟩ = some (.slice b0 l0.length c0) := fun W hW => by
      have hb0 : Below w.heap.size w ((w.alloc (.cells #[.int .i64 0, .int .i64 l0.length, .int .i64 s.size] E)).drew) := ((Below.refl _ w).alloc (Nat.le_refl _) _).drew
      exact ⟨hW.cell ((hb0.cell (p := ⟨t, 2, none⟩) hlt).trans k2) (fun e => e.elim (fun e => h.tp e) (fun e => h.tr e)), hW.cell ((hb0.cell (p := ⟨t, 0, none⟩) hlt).trans k0) (fun e => e.elim (fun e => h.tp e) (fun e => h.tr e))⟩
  have HSS := Lib.hid hss
  have HIN := Lib.hid hins
  have HH := Lib.hid h
  clear hss hins h k1 k3 k4 k5
  go_enter Tryz.func49, Tryz.ntmps49
  go_wp2
  go_region_held3 (fun w' => w'.cell? ⟨t, 2, none⟩ = some (.pointer (some ⟨p, 0, none⟩)) ∧ w'.cell? ⟨t, 0, none⟩ = some (.slice b0 l0.length c0))
      (first | go_keep | exact ⟨d1, d2⟩)
      (first
        | (go_at_call 68; refine HIN.out.mono ?_
           rintro e w3 ⟨rfl, r3, hv3, hf3, hr3⟩
           obtain ⟨d1, d2⟩ := HSS.out _ hf3
           have HV3 := Lib.hid (And.intro hv3 (And.intro hf3 hr3))
           clear hv3 hf3 hr3))
  clear d1 d2 k0 k2
  obtain ⟨hv3, hf3, hr3⟩ := HV3.out
  have hF : Fr (fun k => k = p ∨ r = some k) w w3 := ((Fr.refl _ w).alloc _).drew.trans hf3
  have hnS : ∀ k, foot t p r b0 b1 k → k ≠ p → r ≠ some k → ¬ (k = p ∨ r = some k) := fun k _ h1 h2 h => h.elim h1 h2
  have hhead : w3.heap[t]? = some (.cells #[.slice b0 l0.length c0, .slice b1 l1.length c1, .pointer (some ⟨p, 0, none⟩), .int .i64 T.length, .int .i64 most, .int .i64 edits] TT (0, 0)) :=
    (hF.block t hlt (fun e => e.elim HH.out.tp HH.out.tr)).trans HH.out.head
  have hrow3 : w3.ownsRow base TU 1 (.slice b0 l0.length c0) l0.length (bcells l0) := ownsRow_fr HH.out.row0 hF (fun k hk => by
      rw [ab_own] at hk
      exact fun e => e.elim (fun e => HH.out.p0 (e ▸ hk)) (fun e => HH.out.r0 e hk))
  have hs3 := hF.size
  have hbt := HH.out.bt
  have q1 : w3.cell? ⟨t, 0, none⟩ = some (.slice b0 l0.length c0) := (cell_of_row _ _ 0 _ _ _ hhead).trans (by simp)
  have hm63 := HH.out.m64
  have HHD := Lib.hid hhead
  have HR3 := Lib.hid hrow3
  have HF := Lib.hid hF
  have HV := Lib.hid (And.intro hv3 hr3)
  clear hv3 hf3 hr3 hnS hhead hrow3 hF
  have hbd : base ≤ w3.drew.heap.size := by show base ≤ w3.heap.size; omega
  have htd : t < w3.drew.heap.size := by show t < w3.heap.size; omega
  go_wp2
  go_region_law (refine step_append_strv rfl (.tmp 35) (.tmp 36) 37 9 rfl base TU i0 (.int .u8 0) 1 underB underStr hi0 hz0 hz1 hz2 rfl (.slice b0 l0.length c0) l0.length (bcells l0) (by first | (simp [Act.eval]; done) | simp [Act.eval, Act.put]) HR3.out s (by first | (simp [Act.eval]; done) | simp [Act.eval, Act.put]) hs (by simp only [maxLen]; omega) (by omega) hbd ?_
                 intro b0' c0' w4 hown4 hg4 hnr4
                 have hhead4 := (hg4.block t htd (by rw [ab_own]; exact fun e => HH.out.t0 e.symm)).trans HHD.out
                 have q4 : w4.cell? ⟨t, 0, none⟩ = some (.slice b0 l0.length c0) := (cell_of_row _ _ 0 _ _ _ hhead4).trans (by simp)
                 have q43 : w4.cell? ⟨t, 3, none⟩ = some (.int .i64 T.length) := (cell_of_row _ _ 3 _ _ _ hhead4).trans (by simp)
                 have z41 : w4.frozen? ⟨t, 0, none⟩ = false := frozen_of_row _ _ 0 _ _ hhead4
                 have z43 : w4.frozen? ⟨t, 3, none⟩ = false := frozen_of_row _ _ 3 _ _ hhead4
                 have H4 := Lib.hid (And.intro hown4 (And.intro hg4 (And.intro hnr4 hhead4)))
                 clear hown4 hg4 hnr4 hhead4)
  go_wp2
  go_end0
  obtain ⟨hown4, hg4, hnr4, hhead4⟩ := H4.out
  obtain ⟨hv3, hr3⟩ := HV.out
  have hF := HF.out
  obtain ⟨w5, hw5⟩ : ∃ w5, w5 = (w4.setCell ⟨t, 0, none⟩ (.slice b0' (l0.length + s.size) c0')).setCell ⟨t, 3, none⟩ (.int .i64 ((T.length : Int) + s.size)) := ⟨_, rfl⟩
  rw [← hw5]
  have hh5 : w5.heap[t]? = some (.cells #[.slice b0' (l0.length + s.size) c0', .slice b1 l1.length c1, .pointer (some ⟨p, 0, none⟩), .int .i64 ((T.length : Int) + s.size), .int .i64 most, .int .i64 edits] TT (0, 0)) := by
    rw [hw5, heap_setCell_same _ _ _ _ _ _ (heap_setCell_same _ _ _ _ _ _ hhead4)]; simp
  have hF5 : Fr (fun k => k = t) w4 w5 := by rw [hw5]; exact ((Fr.refl (fun k => k = t) w4).setCell (p := ⟨t, 0, none⟩) (fun _ => rfl) _).setCell (p := ⟨t, 3, none⟩) (fun _ => rfl) _
  have hF4 : Fr (fun k => ab b0 = some k) w3 w4 := ⟨hg4.os, hg4.tape, hg4.output, hg4.size, fun k hk hn => hg4.block k hk (by rw [ab_own]; exact fun e => hn e.symm)⟩
  have hFt : Fr (foot t p r b0 b1) w w5 := (hF.mono (fun k _ h => h.elim (fun h => .inr (.inl h)) (fun h => .inr (.inr (.inl h))))).trans ((hF4.mono (fun k _ h => .inr (.inr (.inr (.inl h))))).trans (hF5.mono (fun k _ h => .inl h)))
  have hnb : ab b0' = ab b0 ∨ ∃ g, ab b0' = some g ∧ w3.heap.size ≤ g := by
    rcases hnr4 with h | ⟨g, h, hg⟩
    · rw [ab_own, ab_own] at h; exact .inl h
    · rw [ab_own] at h; exact .inr ⟨g, h, hg⟩
  have hl1' : (l0 ++ s.data.toList).length = l0.length + s.size := by rw [List.length_append, size_str]
  have hnt : ab b0' ≠ some t := fun e => by
    rcases hnb with h | ⟨g, h, hg⟩
    · exact HH.out.t0 (h ▸ e)
    · rw [h] at e; injection e with e; omega
  have hrt : r3 ≠ some t := fun e => by
    rcases hr3 with h | ⟨g, h, hg⟩
    · exact HH.out.tr (h ▸ e)
    · have hgg : w.heap.size ≤ g := Nat.le_trans (by show w.heap.size ≤ (w.alloc _).heap.size; simp) hg
      rw [h] at e; injection e with e; omega
  have hokq : ∀ q ∈ ps.take i ++ [(⟨0, l0.length, s.size⟩ : Pc)] ++ ps.drop i, q.ok (bufs (l0 ++ s.data.toList) l1) := by
    intro q hq
    simp only [List.mem_append, List.mem_singleton] at hq
    have hgr : ∀ q : Pc, q ∈ ps → q.ok (bufs (l0 ++ s.data.toList) l1) := fun q hq => by
      have := (Pc.grows (m0 := s.data.toList) (m1 := []) (HH.out.ok q hq)).1
      rwa [List.append_nil] at this
    rcases hq with (hq | rfl) | hq
    · exact hgr q (List.mem_of_mem_take hq)
    · exact ⟨by show 0 < 2; omega, hs, by show l0.length + s.size ≤ (l0 ++ s.data.toList).length; omega⟩
    · exact hgr q (List.mem_of_mem_drop hq)
  have hT5 : (txt (bufs (l0 ++ s.data.toList) l1) (ps.take i ++ [⟨0, l0.length, s.size⟩] ++ ps.drop i)).length = T.length + s.size := by
    rw [txt_length hokq, tot_put, HH.out.tot_len]
  have hc5 : ((T.length + s.size : Nat) : Int) = (T.length : Int) + s.size := by omega
  have hvec5 : IsVec w5 base TV E 3 p r3 (ps.take i ++ [(⟨0, l0.length, s.size⟩ : Pc)] ++ ps.drop i).length (flat (ps.take i ++ [(⟨0, l0.length, s.size⟩ : Pc)] ++ ps.drop i)) := by
    have h4 := hv3.fr hF4 HH.out.p0 (fun k hk e => by
      rcases hr3 with h | ⟨g, h, hg⟩
      · exact HH.out.r0 (h ▸ hk) e
      · have hgg : w.heap.size ≤ g := Nat.le_trans (by show w.heap.size ≤ (w.alloc _).heap.size; simp) hg
        have := (HH.out.foot_lt (.inr (.inr (.inr (.inl e))))).2
        rw [h] at hk; injection hk with hk; omega)
    exact h4.fr hF5 (fun e => HH.out.tp e.symm) (fun k hk e => hrt (e ▸ hk))
  refine ⟨⟨_, rfl⟩, r3, b0', c0', ⟨?_, HH.out.bt, ?_, ?_, hvec5, hokq, rfl, by rw [hT5, hc5]; exact hfit, HH.out.m64, by rw [hl1']; omega, by have := HH.out.u1; omega, by have := HH.out.ue; omega, ?_⟩, hFt, ?_, ?_⟩
  · rw [hT5, hl1', hc5]; exact hh5
  · rw [hl1', bcells_append, ← bcells_str]
    exact ownsRow_fr hown4 hF5 (fun k hk e => by rw [ab_own] at hk; exact hnt (e ▸ hk))
  · have h3 := ownsRow_fr HH.out.row1 hF (fun k hk => by
      rw [ab_own] at hk
      exact fun e => e.elim (fun e => HH.out.p1 (e ▸ hk)) (fun e => HH.out.r1 e hk))
    have h4 := ownsRow_fr h3 hF4 (fun k hk e => by rw [ab_own] at hk; exact HH.out.s01 k e hk)
    exact ownsRow_fr h4 hF5 (fun k hk e => by rw [ab_own] at hk; exact HH.out.t1 (e ▸ hk))
  · intro k hk e
    rcases hnb with h | ⟨g, h, hg⟩
    · rw [h] at hk; exact HH.out.s01 k hk e
    · rw [h] at hk; injection hk with hk
      have := (HH.out.foot_lt (.inr (.inr (.inr (.inr e))))).2
      omega
  · rcases hr3 with h | ⟨g, h, hg⟩
    · exact .inl h
    · exact .inr ⟨g, h, Nat.le_trans (by show w.heap.size ≤ (w.alloc _).heap.size; simp) hg⟩
  · rcases hnb with h | ⟨g, h, hg⟩
    · exact .inl h
    · exact .inr ⟨g, h, by omega⟩
end
end Go.Proofs.YtfllgmgipmmpkaaGreatDoor.Tb
