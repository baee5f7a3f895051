/-
  Tables of pieces, told by their text alone: New, Insert, Delete.
-/
import Derived.Test.YtfllgmgipmmpkaaGreatDoorPlace
set_option linter.unusedVariables false
set_option linter.unusedSimpArgs false
set_option maxRecDepth 100000
namespace Go.Proofs.YtfllgmgipmmpkaaGreatDoor.Tb
open Go Go.RowKit Go.Proofs.YtfllgmgipmmpkaaGreatDoor.Vk Go.Shelf
open VecP (E TV)

/-- A table at block t, of the text T; its blocks are those of F; it has np pieces. -/
def Tab (w : World) (base t : Nat) (F : Nat → Prop) (T : List UInt8) (most : Int) (edits np used : Nat) : Prop :=
  ∃ p r b0 c0 l0 b1 c1 l1 ps, TabX w base t p r b0 c0 l0 b1 c1 l1 ps T most edits used ∧ np = ps.length ∧ np ≤ 2 * edits + 1 ∧ F = foot t p r b0 b1

theorem Tab.lt {w : World} {base t : Nat} {F : Nat → Prop} {T : List UInt8} {most : Int} {edits np used : Nat} (h : Tab w base t F T most edits np used) {k : Nat} (hk : F k) : base ≤ k ∧ k < w.heap.size := by
  obtain ⟨p, r, b0, c0, l0, b1, c1, l1, ps, hx, hn, hl, rfl⟩ := h
  exact hx.foot_lt hk
theorem Tab.fr {w w' : World} {base t : Nat} {F S : Nat → Prop} {T : List UInt8} {most : Int} {edits np used : Nat} (h : Tab w base t F T most edits np used) (hf : Fr S w w') (hs : ∀ k, F k → ¬ S k) : Tab w' base t F T most edits np used := by
  obtain ⟨p, r, b0, c0, l0, b1, c1, l1, ps, hx, hn, hl, rfl⟩ := h
  exact ⟨p, r, b0, c0, l0, b1, c1, l1, ps, hx.fr hf hs, hn, hl, rfl⟩
theorem Tab.below {w w' : World} {base t : Nat} {F : Nat → Prop} {T : List UInt8} {most : Int} {edits np used : Nat} (h : Tab w base t F T most edits np used) (hb : Below w.heap.size w w') : Tab w' base t F T most edits np used :=
  h.fr (Fr.ofBelow hb (fun _ => False)) (by simp)
theorem Tab.more {w : World} {base t : Nat} {F : Nat → Prop} {T : List UInt8} {most : Int} {edits np used used' : Nat} (h : Tab w base t F T most edits np used) (hu : used ≤ used') : Tab w base t F T most edits np used' := by
  obtain ⟨p, r, b0, c0, l0, b1, c1, l1, ps, hx, hn, hl, rfl⟩ := h
  exact ⟨p, r, b0, c0, l0, b1, c1, l1, ps, hx.more hu, hn, hl, rfl⟩
theorem Tab.base_mono {w : World} {base base' t : Nat} {F : Nat → Prop} {T : List UInt8} {most : Int} {edits np used : Nat} (h : Tab w base t F T most edits np used) (hb : base' ≤ base) : Tab w base' t F T most edits np used := by
  obtain ⟨p, r, b0, c0, l0, b1, c1, l1, ps, hx, hn, hl, rfl⟩ := h
  exact ⟨p, r, b0, c0, l0, b1, c1, l1, ps, { hx with bt := Nat.le_trans hb hx.bt, row0 := ownsRow_mono hx.row0 hb, row1 := ownsRow_mono hx.row1 hb, vec := hx.vec.mono hb }, hn, hl, rfl⟩
theorem Tab.facts {w : World} {base t : Nat} {F : Nat → Prop} {T : List UInt8} {most : Int} {edits np used : Nat} (h : Tab w base t F T most edits np used) : (T.length : Int) ≤ most ∧ most ≤ 9223372036854775807 ∧ edits ≤ used ∧ np ≤ 2 * edits + 1 ∧ F t ∧ base ≤ t ∧ t < w.heap.size := by
  obtain ⟨p, r, b0, c0, l0, b1, c1, l1, ps, hx, hn, hl, rfl⟩ := h
  exact ⟨hx.fit, hx.m64, hx.ue, hl, .inl rfl, (hx.foot_lt (.inl rfl)).1, (hx.foot_lt (.inl rfl)).2⟩

section
variable {w : World} {base t p : Nat} {r : Option Nat} {b0 : Option Addr} {c0 : Nat} {l0 : List UInt8} {b1 : Option Addr} {c1 : Nat} {l1 : List UInt8} {ps : List Pc} {T : List UInt8} {most : Int} {edits used : Nat}

/-- One edit more is counted. -/
theorem TabX.edited (h : TabX w base t p r b0 c0 l0 b1 c1 l1 ps T most edits used) : TabX (w.setCell ⟨t, 5, none⟩ (.int .i64 ((edits : Int) + 1))) base t p r b0 c0 l0 b1 c1 l1 ps T most (edits + 1) (used + 1) := by
  have hF : Fr (fun k => k = t) w (w.setCell ⟨t, 5, none⟩ (.int .i64 ((edits : Int) + 1))) := (Fr.refl (fun k => k = t) w).setCell (p := ⟨t, 5, none⟩) (fun _ => rfl) _
  exact { h with
    head := by
      rw [heap_setCell_same _ _ _ _ _ _ h.head]
      have : ((edits + 1 : Nat) : Int) = (edits : Int) + 1 := by omega
      simp
    row0 := ownsRow_fr h.row0 hF (fun k hk e => by rw [ab_own] at hk; exact h.t0 (e ▸ hk))
    row1 := ownsRow_fr h.row1 hF (fun k hk e => by rw [ab_own] at hk; exact h.t1 (e ▸ hk))
    vec := h.vec.fr hF (fun e => h.tp e.symm) (fun k hk e => h.tr (e ▸ hk))
    u0 := by have := h.u0; omega
    u1 := by have := h.u1; omega
    ue := by have := h.ue; omega }

/-- Pieces are gone, n bytes in all: the list has lost them, the size and the edits are told. -/
theorem TabX.cut (h : TabX w base t p r b0 c0 l0 b1 c1 l1 ps T most edits used) {w3 : World} {qs : List Pc} {T' : List UInt8} {n : Nat} (hF : Fr (fun b => b = p ∨ r = some b) w w3) (hv : IsVec w3 base TV E 3 p r qs.length (flat qs)) (hok : ∀ q ∈ qs, q.ok (bufs l0 l1)) (htx : txt (bufs l0 l1) qs = T') (hlen : T'.length + n = T.length) :
    TabX ((w3.setCell ⟨t, 3, none⟩ (.int .i64 ((T.length : Int) - n))).setCell ⟨t, 5, none⟩ (.int .i64 ((edits : Int) + 1))) base t p r b0 c0 l0 b1 c1 l1 qs T' most (edits + 1) (used + 1) := by
  have hhead : w3.heap[t]? = some (.cells #[.slice b0 l0.length c0, .slice b1 l1.length c1, .pointer (some ⟨p, 0, none⟩), .int .i64 T.length, .int .i64 most, .int .i64 edits] TT (0, 0)) :=
    (hF.block t (h.foot_lt (.inl rfl)).2 (fun e => e.elim h.tp h.tr)).trans h.head
  have hF5 : Fr (fun k => k = t) w3 (w3.setCell ⟨t, 3, none⟩ (.int .i64 ((T.length : Int) - n))) := (Fr.refl (fun k => k = t) w3).setCell (p := ⟨t, 3, none⟩) (fun _ => rfl) _
  have hc : ((T'.length : Nat) : Int) = (T.length : Int) - n := by omega
  refine TabX.edited (edits := edits) (used := used) { h with
    head := ?_
    row0 := ?_
    row1 := ?_
    vec := hv.fr hF5 (fun e => h.tp e.symm) (fun k hk e => h.tr (e ▸ hk))
    ok := hok
    text := htx
    fit := by have := h.fit; omega }
  · rw [heap_setCell_same _ _ _ _ _ _ hhead, hc]; simp
  · have h3 := ownsRow_fr h.row0 hF (fun k hk => by
      rw [ab_own] at hk
      exact fun e => e.elim (fun e => h.p0 (e ▸ hk)) (fun e => h.r0 e hk))
    exact ownsRow_fr h3 hF5 (fun k hk e => by rw [ab_own] at hk; exact h.t0 (e ▸ hk))
  · have h3 := ownsRow_fr h.row1 hF (fun k hk => by
      rw [ab_own] at hk
      exact fun e => e.elim (fun e => h.p1 (e ▸ hk)) (fun e => h.r1 e hk))
    exact ownsRow_fr h3 hF5 (fun k hk e => by rw [ab_own] at hk; exact h.t1 (e ▸ hk))

theorem place_none (h : TabX w base t p r b0 c0 l0 b1 c1 l1 ps T most edits used) (i k : Int) (s : ByteArray) (hs : s.size = 0) :
    Calls Tryz.prog 49 #[.pointer (some ⟨t, 0, none⟩), .int .i64 i, .int .i64 k, .string s] w fun e w' => (∃ v, e = .returned v) ∧ w = w' := by
  have hne : s.toList.isEmpty = true := by
    rw [ByteArray.toList_eq]
    cases hl : s.data.toList with
    | nil => rfl
    | cons a l => have := size_str s; rw [hl] at this; simp at this; omega
  have hnil : s.toList = [] := by simpa using hne
  clear h
  go_enter Tryz.func49, Tryz.ntmps49
  go_wp2
  refine bodyPost_ret (results_none rfl _ _ _) rfl ?_
  exact ⟨⟨_, rfl⟩, rfl⟩

end

theorem new_full (s : ByteArray) (most : Int) (w : World) (hs : s.size ≤ 1000000) (h : most < s.size) :
    Calls Tryz.prog 27 #[.string s, .int .i64 most] w fun e w' => e = .returned (.tuple #[.pointer none, .int .i64 21]) ∧ w = w' := by
  go_enter Tryz.func27, Tryz.ntmps27
  go_wp2
  go_ret2
  exact ⟨rfl, rfl⟩

/-- An empty table. -/
theorem tab_new (w : World) (most : Int) (h0 : 0 ≤ most) (hm : most ≤ 9223372036854775807) :
    TabX ((w.alloc (.cells #[.slice none 0 0] TV)).alloc (.cells #[.slice none 0 0, .slice none 0 0, .pointer (some ⟨w.heap.size, 0, none⟩), .int .i64 0, .int .i64 most, .int .i64 0] TT)) w.heap.size (w.heap.size + 1) w.heap.size none none 0 [] none 0 [] [] [] most 0 0 := by
  have hs : (w.alloc (.cells #[.slice none 0 0] TV)).heap.size = w.heap.size + 1 := by simp
  refine ⟨?_, by omega, World.ownsRow_nil _ _ _ _, World.ownsRow_nil _ _ _ _, ⟨none, 0, ?_, Nat.le_refl _, World.ownsRow_nil _ _ _ _, rfl, by simp⟩, by simp, rfl, by simpa using h0, hm, Nat.le_refl _, Nat.le_refl _, Nat.le_refl _, by simp [ab]⟩
  · have := heap_alloc_new (w.alloc (.cells #[.slice none 0 0] TV)) (.cells #[.slice none 0 0, .slice none 0 0, .pointer (some ⟨w.heap.size, 0, none⟩), .int .i64 0, .int .i64 most, .int .i64 0] TT)
    rw [hs] at this
    exact this
  · exact (Below.heap_alloc _ _ _ (by rw [hs]; omega)).trans (heap_alloc_new w _)

theorem new_ok (s : ByteArray) (most : Int) (w : World) (hs : s.size ≤ 1000000) (h : s.size ≤ most) (hm : most ≤ 9223372036854775807) :
    Calls Tryz.prog 27 #[.string s, .int .i64 most] w fun e w' => ∃ t F np, e = .returned (.tuple #[.pointer (some ⟨t, 0, none⟩), .int .i64 0]) ∧ Tab w' w.heap.size t F s.data.toList most 0 np s.size ∧ Below w.heap.size w w' := by
  have htab := tab_new w most (by omega) hm
  have hb : Below w.heap.size w ((w.alloc (.cells #[.slice none 0 0] TV)).alloc (.cells #[.slice none 0 0, .slice none 0 0, .pointer (some ⟨w.heap.size, 0, none⟩), .int .i64 0, .int .i64 most, .int .i64 0] TT)) := ((Below.refl _ w).alloc (Nat.le_refl _) _).alloc (by simp) _
  by_cases h0 : s.size = 0
  · have hpl := place_none htab 0 0 s h0
    have HT := Lib.hid (And.intro htab hb)
    clear htab hb
    go_enter Tryz.func27, Tryz.ntmps27
    go_wp2_with (first
      | (go_at_call 48; refine (VecP.new_nil _).mono ?_; rintro e w' ⟨rfl, rfl⟩)
      | (go_at_call 49; refine hpl.mono ?_; rintro e w' ⟨⟨v, rfl⟩, rfl⟩))
    go_ret2
    have hl : s.data.toList = [] := by
      cases hl : s.data.toList with
      | nil => rfl
      | cons a l => have := size_str s; rw [hl] at this; simp at this; omega
    have hx := HT.out.1
    rw [← hl] at hx
    have ht : Tab _ w.heap.size _ _ s.data.toList most 0 _ s.size := ⟨_, _, _, _, _, _, _, _, _, hx.more (Nat.zero_le _), rfl, Nat.zero_le _, rfl⟩
    exact ⟨_, _, _, rfl, ht, HT.out.2⟩
  · have hpl := place0_any htab 0 (Nat.le_refl _) s (by omega) (by simpa using h) (by simp) (by simp) (by omega)
    have HT := Lib.hid (And.intro htab hb)
    clear htab hb
    go_enter Tryz.func27, Tryz.ntmps27
    go_wp2_with (first
      | (go_at_call 48; refine (VecP.new_nil _).mono ?_; rintro e w' ⟨rfl, rfl⟩)
      | (go_at_call 49; refine hpl.mono ?_; rintro e w2 ⟨⟨v, rfl⟩, r2, b2, c2, hx2, hf2, hr2, hb2⟩
         have H2 := Lib.hid (And.intro hx2 hf2)
         clear hx2 hf2 hr2 hb2))
    go_ret2
    obtain ⟨hx2, hf2⟩ := H2.out
    have e1 : txt (bufs ([] ++ s.data.toList) []) ([].take 0 ++ [(⟨0, ([] : List UInt8).length, s.size⟩ : Pc)] ++ [].drop 0) = s.data.toList := by
      show (((bufs ([] ++ s.data.toList) [] 0).drop 0).take s.size) ++ [] = s.data.toList
      rw [List.append_nil, List.drop_zero, ← size_str s]
      exact List.take_length
    rw [e1, Nat.zero_add] at hx2
    have ht : Tab w2 w.heap.size _ _ s.data.toList most 0 _ s.size := ⟨_, _, _, _, _, _, _, _, _, hx2, rfl, by simp, rfl⟩
    exact ⟨_, _, _, rfl, ht, HT.out.2.trans (hf2.below HT.out.2.size (fun k hk => (HT.out.1.foot_lt hk).1))⟩

section
variable {w : World} {base t : Nat} {F : Nat → Prop} {T : List UInt8} {most : Int} {edits np used : Nat}

theorem tlen (h : Tab w base t F T most edits np used) : Calls Tryz.prog 37 #[.pointer (some ⟨t, 0, none⟩)] w fun e w' => e = .returned (.int .i64 T.length) ∧ w = w' := by
  obtain ⟨p, r, b0, c0, l0, b1, c1, l1, ps, hx, hn, hl, rfl⟩ := h
  exact len_any hx
theorem tedits (h : Tab w base t F T most edits np used) : Calls Tryz.prog 42 #[.pointer (some ⟨t, 0, none⟩)] w fun e w' => e = .returned (.int .i64 edits) ∧ w = w' := by
  obtain ⟨p, r, b0, c0, l0, b1, c1, l1, ps, hx, hn, hl, rfl⟩ := h
  exact edits_any hx
theorem tpieces (h : Tab w base t F T most edits np used) : Calls Tryz.prog 41 #[.pointer (some ⟨t, 0, none⟩)] w fun e w' => e = .returned (.int .i64 np) ∧ w = w' := by
  obtain ⟨p, r, b0, c0, l0, b1, c1, l1, ps, hx, rfl, hl, rfl⟩ := h
  exact pieces_any hx
theorem thas_yes (h : Tab w base t F T most edits np used) {off n : Int} (hi : inside T off n) : Calls Tryz.prog 60 #[.pointer (some ⟨t, 0, none⟩), .int .i64 off, .int .i64 n] w fun e w' => e = .returned (.bool true) ∧ w = w' := by
  obtain ⟨p, r, b0, c0, l0, b1, c1, l1, ps, hx, rfl, hl, rfl⟩ := h
  exact has_yes hx hi
theorem thas_no (h : Tab w base t F T most edits np used) {off n : Int} (hi : ¬ inside T off n) : Calls Tryz.prog 60 #[.pointer (some ⟨t, 0, none⟩), .int .i64 off, .int .i64 n] w fun e w' => e = .returned (.bool false) ∧ w = w' := by
  obtain ⟨p, r, b0, c0, l0, b1, c1, l1, ps, hx, rfl, hl, rfl⟩ := h
  exact has_no hx hi

/-- Insert where there is no such place. -/
theorem insert_place (h : Tab w base t F T most edits np used) (off : Int) (s : ByteArray) (ho : ¬ (0 ≤ off ∧ off ≤ T.length)) :
    Calls Tryz.prog 55 #[.pointer (some ⟨t, 0, none⟩), .int .i64 off, .string s] w fun e w' => e = .returned (.int .i64 20) ∧ w = w' := by
  have hh := thas_no h (off := off) (n := 0) (fun h => ho ⟨h.1, h.2.1⟩)
  clear h
  go_enter Tryz.func55, Tryz.ntmps55
  go_wp2_with (go_at_call 60; refine hh.mono ?_; rintro e w' ⟨rfl, rfl⟩)
  go_ret
  exact ⟨rfl, rfl⟩

theorem Tab.cells (h : Tab w base t F T most edits np used) : w.cell? ⟨t, 3, none⟩ = some (.int .i64 T.length) ∧ w.cell? ⟨t, 4, none⟩ = some (.int .i64 most) := by
  obtain ⟨p, r, b0, c0, l0, b1, c1, l1, ps, hx, rfl, hl, rfl⟩ := h
  exact ⟨hx.cells.2.2.2.1, hx.cells.2.2.2.2.1⟩

/-- Insert where the text would be too long. -/
theorem insert_full (h : Tab w base t F T most edits np used) (off : Int) (s : ByteArray) (ho : 0 ≤ off ∧ off ≤ T.length) (hs : s.size ≤ 1000000) (hT : T.length ≤ 1000000) (hf : most < (T.length : Int) + s.size) :
    Calls Tryz.prog 55 #[.pointer (some ⟨t, 0, none⟩), .int .i64 off, .string s] w fun e w' => e = .returned (.int .i64 21) ∧ Below w.heap.size w w' := by
  have hh := thas_yes h (off := off) (n := 0) ⟨ho.1, ho.2, by omega, by omega⟩
  obtain ⟨k3, k4⟩ := h.cells
  obtain ⟨h1, h2, -⟩ := h.facts
  clear h
  have hw : IntKind.i64.wrap (most - (T.length : Int)) = most - (T.length : Int) := by rw [IntKind.wrap_i64]; omega
  have hd : decide (most - (T.length : Int) < (s.size : Int)) = true := by simp; omega
  go_enter Tryz.func55, Tryz.ntmps55
  go_wp2_with (go_at_call 60; refine hh.mono ?_; rintro e w' ⟨rfl, rfl⟩)
  go_quiet (fail)
  go_wp2
  go_ret
  exact ⟨rfl, rfl, rfl, rfl, Nat.le_refl _, fun _ _ => rfl⟩

/-- What a change leaves. -/
def Changed (w : World) (base t : Nat) (F : Nat → Prop) (T' : List UInt8) (most : Int) (edits' used' : Nat) (w' : World) : Prop :=
  ∃ F' np', Tab w' base t F' T' most edits' np' used' ∧ Fr F w w' ∧ ∀ k, F' k → F k ∨ w.heap.size ≤ k

theorem insert_empty (h : Tab w base t F T most edits np used) (off : Nat) (s : ByteArray) (ho : off ≤ T.length) (hT : T.length ≤ 1000000) (hs : s.size = 0) :
    Calls Tryz.prog 55 #[.pointer (some ⟨t, 0, none⟩), .int .i64 off, .string s] w fun e w' => e = .returned (.int .i64 0) ∧ Below w.heap.size w w' := by
  have hh := thas_yes h (off := off) (n := 0) ⟨by omega, by omega, by omega, by omega⟩
  obtain ⟨k3, k4⟩ := h.cells
  obtain ⟨h1, h2, -⟩ := h.facts
  have hne : s.toList.isEmpty = true := by
    rw [ByteArray.toList_eq]
    cases hl : s.data.toList with
    | nil => rfl
    | cons a l => have := size_str s; rw [hl] at this; simp at this; omega
  have hnil : s.toList = [] := by simpa using hne
  clear h
  have hw : IntKind.i64.wrap (most - (T.length : Int)) = most - (T.length : Int) := by rw [IntKind.wrap_i64]; omega
  have hd : decide (most - (T.length : Int) < (s.size : Int)) = false := by simp; omega
  go_enter Tryz.func55, Tryz.ntmps55
  go_wp2_with (go_at_call 60; refine hh.mono ?_; rintro e w' ⟨rfl, rfl⟩)
  go_quiet (fail)
  go_wp2
  go_ret
  exact ⟨rfl, rfl, rfl, rfl, Nat.le_refl _, fun _ _ => rfl⟩

theorem insert_some (h : Tab w base t F T most edits np used) (off : Nat) (s : ByteArray) (ho : off ≤ T.length) (hfit : (T.length : Int) + s.size ≤ most) (hT : T.length ≤ 100000) (hu : used + s.size ≤ 100000) (hs : 0 < s.size) :
    Calls Tryz.prog 55 #[.pointer (some ⟨t, 0, none⟩), .int .i64 off, .string s] w fun e w' => e = .returned (.int .i64 0) ∧
      Changed w base t F (T.take off ++ s.data.toList ++ T.drop off) most (edits + 1) (used + s.size + 1) w' := by
  have hh := thas_yes h (off := off) (n := 0) ⟨by omega, by omega, by omega, by omega⟩
  obtain ⟨k3, k4⟩ := h.cells
  obtain ⟨h1, h2, h3, h4, -⟩ := h.facts
  have hne : s.toList.isEmpty = false := by
    rw [ByteArray.toList_eq]
    cases hl : s.data.toList with
    | nil => have := size_str s; rw [hl] at this; simp at this; omega
    | cons a l => rfl
  obtain ⟨p, r, b0, c0, l0, b1, c1, l1, ps, hx, rfl, hl, rfl⟩ := h
  have hsplit : ∀ q, _ := fun q => split_any (hx.fr ((Fr.refl (fun _ => False) w).drewN q) (by simp)) off ho (by omega) (by omega) (by omega)
  have HX := Lib.hid hx
  have HS := Lib.hid hsplit
  clear hx hsplit
  have hw : IntKind.i64.wrap (most - (T.length : Int)) = most - (T.length : Int) := by rw [IntKind.wrap_i64]; omega
  have hd : decide (most - (T.length : Int) < (s.size : Int)) = false := by simp; omega
  go_enter Tryz.func55, Tryz.ntmps55
  go_wp2_with (go_at_call 60; refine hh.mono ?_; rintro e w' ⟨rfl, rfl⟩)
  go_quiet (fail)
  clear hw hd
  go_wp2_with fail
  refine (HS.out nq).mono ?_
  rintro e w1 ⟨i, rfl, r1, qs, hx1, hp1, hf1, hr1⟩
  have hpl := place1_any hx1 i hp1.le s hs hfit (by omega) (by have := hp1.few; omega) (by omega)
  have H1 := Lib.hid (And.intro hx1 (And.intro hp1 (And.intro hf1 hr1)))
  clear hx1 hp1 hf1 hr1
  go_wp2_with fail
  refine hpl.mono ?_
  rintro e w2 ⟨⟨v, rfl⟩, r2, b2, c2, hx2, hf2, hr2, hb2⟩
  obtain ⟨k0, k1, k2, k3', k4', k5⟩ := hx2.cells
  have z5 := hx2.frozen 5
  have hue := hx2.ue
  have H2 := Lib.hid (And.intro hx2 (And.intro hf2 (And.intro hr2 hb2)))
  clear hx2 hf2 hr2 hb2 k0 k1 k2 k3' k4' hpl hh k3 k4
  go_wp2
  go_ret
  obtain ⟨hx2, hf2, hr2, hb2⟩ := H2.out
  obtain ⟨hx1, hp1, hf1, hr1⟩ := H1.out
  have htx := (put_txt (B' := bufs l0 (l1 ++ s.data.toList)) hp1 ⟨1, l1.length, s.size⟩ s.data.toList ⟨by show 1 < 2; omega, hs, by show l1.length + s.size ≤ (l1 ++ s.data.toList).length; rw [List.length_append, size_str]; omega⟩
    (by
      show ((l1 ++ s.data.toList).drop l1.length).take s.size = s.data.toList
      rw [List.drop_left, ← size_str s]
      exact List.take_length)
    (fun q hq => by have := Pc.grows (m0 := []) (m1 := s.data.toList) hq; rwa [List.append_nil] at this)).2
  rw [HX.out.text] at htx
  rw [htx] at hx2
  have hx3 := hx2.edited
  have hs0 : (w.drewN nq).heap.size = w.heap.size := rfl
  have hfr1 : Fr (foot t p r b0 b1) w w1 := ((Fr.refl _ w).drewN nq).trans (hf1.mono (fun k _ h => h.elim (fun h => .inr (.inl h)) (fun h => .inr (.inr (.inl h)))))
  have hft : ∀ k, foot t p r1 b0 b1 k → foot t p r b0 b1 k ∨ w.heap.size ≤ k := by
    rintro k (h | h | h | h | h)
    · exact .inl (.inl h)
    · exact .inl (.inr (.inl h))
    · rcases hr1 with h' | ⟨g, h', hg⟩
      · exact .inl (.inr (.inr (.inl (h' ▸ h))))
      · rw [h'] at h; injection h with h; exact .inr (by omega)
    · exact .inl (.inr (.inr (.inr (.inl h))))
    · exact .inl (.inr (.inr (.inr (.inr h))))
  have hfr2 : Fr (foot t p r b0 b1) w w2 := hfr1.trans' hf2 (fun k hk h => (hft k h).elim id (fun h => by omega))
  have hs1 := hfr1.size
  refine ⟨rfl, _, _, ⟨_, _, _, _, _, _, _, _, _, hx3, rfl, ?_, rfl⟩, hfr2.setCell (fun _ => .inl rfl) _, ?_⟩
  · have e1 : (qs.take i ++ [(⟨1, l1.length, s.size⟩ : Pc)] ++ qs.drop i).length = qs.length + 1 := by have := hp1.le; simp; omega
    rw [e1]
    have := hp1.few
    omega
  · rintro k (h | h | h | h | h)
    · exact .inl (.inl h)
    · exact .inl (.inr (.inl h))
    · rcases hr2 with h' | ⟨g, h', hg⟩
      · exact hft k (.inr (.inr (.inl (h' ▸ h))))
      · rw [h'] at h; injection h with h; exact .inr (by omega)
    · exact .inl (.inr (.inr (.inr (.inl h))))
    · rcases hb2 with h' | ⟨g, h', hg⟩
      · exact .inl (.inr (.inr (.inr (.inr (h' ▸ h)))))
      · rw [h'] at h; injection h with h; exact .inr (by omega)
end
end Go.Proofs.YtfllgmgipmmpkaaGreatDoor.Tb
