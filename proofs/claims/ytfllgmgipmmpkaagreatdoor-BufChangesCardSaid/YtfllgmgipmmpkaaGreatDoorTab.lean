/-
  Tables of pieces: what a table is in memory; what its functions do that only read.
-/
import Derived.Test.YtfllgmgipmmpkaaGreatDoorDelP
import Derived.Test.YtfllgmgipmmpkaaGreatDoorWalkP
import Derived.RegionTactic
import Derived.BigQuiet
import Derived.Deep.QuietTactic
import Derived.IntWalk
set_option linter.unusedVariables false
set_option linter.unusedSimpArgs false
set_option maxRecDepth 100000
namespace Go.Proofs.YtfllgmgipmmpkaaGreatDoor.VecP
open Go Go.RowKit Go.Proofs.YtfllgmgipmmpkaaGreatDoor.Vk Go.Proofs.YtfllgmgipmmpkaaGreatDoor.Tb Go.Shelf

theorem walk_new (p : Nat) (o : Value) (w : World) : Calls Tryz.prog 82 #[.pointer (some ⟨p, 0, none⟩), .func (.func 83) #[] #[]] w fun e w' =>
    e = .returned (.func (.func 100) #[] #[.pointer (some ⟨w.heap.size + 1, 0, none⟩), .pointer (some ⟨w.heap.size, 0, none⟩)]) ∧ (w.alloc (.cells #[.pointer (some ⟨p, 0, none⟩)] 85)).alloc (.cells #[.func (.func 83) #[] #[]] 126) = w' := by
  go_enter Tryz.func82, Tryz.ntmps82
  go_wp2
  go_ret
  exact ⟨rfl, rfl⟩

theorem all_new (p : Nat) (w : World) : Calls Tryz.prog 61 #[.pointer (some ⟨p, 0, none⟩)] w fun e w' =>
    e = .returned (.func (.func 100) #[] #[.pointer (some ⟨w.heap.size + 1, 0, none⟩), .pointer (some ⟨w.heap.size, 0, none⟩)]) ∧ (w.alloc (.cells #[.pointer (some ⟨p, 0, none⟩)] 85)).alloc (.cells #[.func (.func 83) #[] #[]] 126) = w' := by
  go_enter Tryz.func61, Tryz.ntmps61
  go_wp2
  go_ret
  exact ⟨rfl, rfl⟩

theorem range_at {α : Type} (f : Nat → α) (n : Nat) (pre : List α) (x : α) (rest : List α) (h : (List.range n).map f = pre ++ x :: rest) : pre.length < n ∧ x = f pre.length := by
  have hl : ((List.range n).map f).length = (pre ++ x :: rest).length := by rw [h]
  simp at hl
  have hlt : pre.length < n := by omega
  refine ⟨hlt, ?_⟩
  have h1 : ((List.range n).map f)[pre.length]? = (pre ++ x :: rest)[pre.length]? := by rw [h]
  rw [List.getElem?_map, List.getElem?_append_right (Nat.le_refl _)] at h1
  simp [hlt] at h1
  exact h1.symm

/-- A piece in a block of its own, as a slice of one. -/
theorem srcv_piece {w : World} {xb : Nat} {q : Pc} (hx : w.heap[xb]? = some (.cells #[.int .i64 q.b, .int .i64 q.s, .int .i64 q.z] E (0, 0))) : SrcV w 3 (.slice (some ⟨xb, 0, none⟩) 1 1) 1 q.cells := by
  refine ⟨rfl, by simp [Pc.cells, Value.oneCell'], by simp [maxLen], .inr ⟨xb, 0, 1, rfl, Nat.le_refl _, by simp [maxLen], fun j u hj => ?_⟩⟩
  rw [cell_of_row _ _ _ _ _ _ hx, Nat.zero_add]
  simpa [Pc.cells] using hj

/-- (*Vec).Insert of one piece, which lies in a block of its own. -/
theorem insert_one (base p : Nat) (r : Option Nat) (ps : List Pc) (i xb : Nat) (q : Pc) (w : World) (h : IsVec w base TV E 3 p r ps.length (flat ps)) (hx : w.heap[xb]? = some (.cells #[.int .i64 q.b, .int .i64 q.s, .int .i64 q.z] E (0, 0))) (hxr : r ≠ some xb) (hi : i ≤ ps.length) (hn : ps.length ≤ 1000000) :
    Calls Tryz.prog 68 #[.pointer (some ⟨p, 0, none⟩), .int .i64 i, .slice (some ⟨xb, 0, none⟩) 1 1] w fun e w' => e = .returned (.bool true) ∧
      ∃ r', IsVec w' base TV E 3 p r' (ps.take i ++ [q] ++ ps.drop i).length (flat (ps.take i ++ [q] ++ ps.drop i)) ∧ Fr (fun b => b = p ∨ r = some b) w w' ∧ (r' = r ∨ ∃ g, r' = some g ∧ w.heap.size ≤ g) := by
  refine (insert_in base p r ps.length (flat ps) i _ 1 q.cells w h (flat_one ps) (srcv_piece hx) (fun _ j hj e => hxr (by simp [blk] at hj; rw [hj]; exact e)) (by omega) hi hn (by omega)).mono ?_
  rintro e w' ⟨he, r', hv, hf, hr⟩
  refine ⟨he, r', ?_, hf, hr⟩
  have e1 : (ps.take i ++ [q] ++ ps.drop i).length = ps.length + 1 := by simp; omega
  have e2 : flat (ps.take i ++ [q] ++ ps.drop i) = (flat ps).take (i * 3) ++ q.cells ++ (flat ps).drop (i * 3) := by
    rw [flat_append, flat_append, flat_take ps i hi, flat_drop ps i hi, flat_cons, flat_nil, List.append_nil]
  rw [e1, e2]
  exact hv

/-- (*Vec).Delete of pieces that are there. -/
theorem delete_some (base p : Nat) (r : Option Nat) (ps : List Pc) (i j : Nat) (w : World) (h : IsVec w base TV E 3 p r ps.length (flat ps)) (hij : i < j) (hj : j ≤ ps.length) (hn : ps.length ≤ 1000000) :
    Calls Tryz.prog 77 #[.pointer (some ⟨p, 0, none⟩), .int .i64 i, .int .i64 ((j : Int) - i)] w fun e w' => (∃ v, e = .returned v) ∧
      IsVec w' base TV E 3 p r (ps.take i ++ ps.drop j).length (flat (ps.take i ++ ps.drop j)) ∧ Fr (fun b => b = p ∨ r = some b) w w' := by
  refine (delete_in base p r ps.length (flat ps) i (j - i) ((j : Int) - i) w h (flat_one ps) (by omega) (by omega) (by omega) (by omega) hn).mono ?_
  rintro e w' ⟨b', c', he, ho, hv, hf⟩
  refine ⟨⟨_, he⟩, ?_, hf⟩
  have e1 : (ps.take i ++ ps.drop j).length = ps.length - (j - i) := by simp; omega
  have e2 : flat (ps.take i ++ ps.drop j) = (flat ps).take (i * 3) ++ (flat ps).drop ((i + (j - i)) * 3) := by
    rw [flat_append, flat_take ps i (by omega), show i + (j - i) = j by omega, flat_drop ps j hj]
  rw [e1, e2]
  exact hv

end Go.Proofs.YtfllgmgipmmpkaaGreatDoor.VecP

namespace Go.Proofs.YtfllgmgipmmpkaaGreatDoor.Tb
open Go Go.RowKit Go.Proofs.YtfllgmgipmmpkaaGreatDoor.Vk
open VecP (E TV)

abbrev TT : TypeId := 91
abbrev TU : TypeId := 5

/-- The two buffers. -/
def bufs (l0 l1 : List UInt8) : Nat → List UInt8 := fun k => if k = 0 then l0 else l1
def bcells (l : List UInt8) : List Value := l.map fun b => Value.int .u8 b.toNat
theorem bcells_one (l : List UInt8) : ∀ u ∈ bcells l, u.oneCell' = true := by
  intro u hu
  obtain ⟨_, _, rfl⟩ := List.mem_map.1 hu
  rfl
def ab (b : Option Addr) : Option Nat := b.map (·.block)
theorem ab_own (b : Option Addr) (n c : Nat) : (Value.slice b n c).ownBlock = ab b := by cases b <;> rfl

/-- A table at block t: its struct, its two buffers, its list of pieces; all lie from base on. -/
structure TabX (w : World) (base t p : Nat) (r : Option Nat) (b0 : Option Addr) (c0 : Nat) (l0 : List UInt8) (b1 : Option Addr) (c1 : Nat) (l1 : List UInt8) (ps : List Pc) (T : List UInt8) (most : Int) (edits used : Nat) : Prop where
  head : w.heap[t]? = some (.cells #[.slice b0 l0.length c0, .slice b1 l1.length c1, .pointer (some ⟨p, 0, none⟩), .int .i64 T.length, .int .i64 most, .int .i64 edits] TT (0, 0))
  bt : base ≤ t
  row0 : w.ownsRow base TU 1 (.slice b0 l0.length c0) l0.length (bcells l0)
  row1 : w.ownsRow base TU 1 (.slice b1 l1.length c1) l1.length (bcells l1)
  vec : IsVec w base TV E 3 p r ps.length (flat ps)
  ok : ∀ q ∈ ps, q.ok (bufs l0 l1)
  text : txt (bufs l0 l1) ps = T
  fit : (T.length : Int) ≤ most
  m64 : most ≤ 9223372036854775807
  u0 : l0.length ≤ used
  u1 : l1.length ≤ used
  ue : edits ≤ used
  s01 : ∀ k, ab b0 = some k → ab b1 ≠ some k

/-- The blocks that are the table's. -/
def foot (t p : Nat) (r : Option Nat) (b0 b1 : Option Addr) (k : Nat) : Prop := k = t ∨ k = p ∨ r = some k ∨ ab b0 = some k ∨ ab b1 = some k

theorem own_type {w : World} {base : Nat} {e : TypeId} {size n c g : Nat} {b : Option Addr} {xs : List Value} (h : w.ownsRow base e size (.slice b n c) n xs) (hg : ab b = some g) : ∃ cur, w.heap[g]? = some (.cells cur e (0, 0)) := by
  rcases h.2 with ⟨hv, _⟩ | ⟨g', cap, cur, hv, _, hh, _⟩
  · simp only [Value.slice.injEq] at hv
    rw [hv.1] at hg; cases hg
  · simp only [Value.slice.injEq] at hv
    rw [hv.1] at hg
    simp [ab] at hg
    subst hg
    exact ⟨cur, hh⟩

section
variable {w : World} {base t p : Nat} {r : Option Nat} {b0 : Option Addr} {c0 : Nat} {l0 : List UInt8} {b1 : Option Addr} {c1 : Nat} {l1 : List UInt8} {ps : List Pc} {T : List UInt8} {most : Int} {edits used : Nat}

theorem TabX.rowType (h : TabX w base t p r b0 c0 l0 b1 c1 l1 ps T most edits used) {g : Nat} (hg : r = some g) : ∃ cur, w.heap[g]? = some (.cells cur E (0, 0)) := by
  obtain ⟨b, c, h1, h2, h3, h4, h5⟩ := h.vec
  exact own_type h3 (by rw [← ab_own b ps.length c, h4, hg])
theorem TabX.vecHead (h : TabX w base t p r b0 c0 l0 b1 c1 l1 ps T most edits used) : ∃ cur, w.heap[p]? = some (.cells cur TV (0, 0)) := by
  obtain ⟨b, c, h1, h2, h3, h4, h5⟩ := h.vec
  exact ⟨_, h1⟩
theorem ne_type {k k' : Nat} {cs cs' : Array Value} {e e' : TypeId} (h : w.heap[k]? = some (.cells cs e (0, 0))) (h' : w.heap[k']? = some (.cells cs' e' (0, 0))) (hne : e ≠ e') : k ≠ k' := by
  rintro rfl
  rw [h] at h'
  injection h' with h'
  injection h' with _ ht
  exact hne ht
theorem TabX.tp (h : TabX w base t p r b0 c0 l0 b1 c1 l1 ps T most edits used) : t ≠ p := by
  obtain ⟨cur, hp⟩ := h.vecHead
  exact ne_type h.head hp (by decide)
theorem TabX.tr (h : TabX w base t p r b0 c0 l0 b1 c1 l1 ps T most edits used) : r ≠ some t := fun e => by
  obtain ⟨cur, hp⟩ := h.rowType e
  exact ne_type h.head hp (by decide) rfl
theorem TabX.t0 (h : TabX w base t p r b0 c0 l0 b1 c1 l1 ps T most edits used) : ab b0 ≠ some t := fun e => by
  obtain ⟨cur, hp⟩ := own_type h.row0 e
  exact ne_type h.head hp (by decide) rfl
theorem TabX.t1 (h : TabX w base t p r b0 c0 l0 b1 c1 l1 ps T most edits used) : ab b1 ≠ some t := fun e => by
  obtain ⟨cur, hp⟩ := own_type h.row1 e
  exact ne_type h.head hp (by decide) rfl
theorem TabX.p0 (h : TabX w base t p r b0 c0 l0 b1 c1 l1 ps T most edits used) : ab b0 ≠ some p := fun e => by
  obtain ⟨cur, hp⟩ := own_type h.row0 e
  obtain ⟨cur', hq⟩ := h.vecHead
  exact ne_type hq hp (by decide) rfl
theorem TabX.p1 (h : TabX w base t p r b0 c0 l0 b1 c1 l1 ps T most edits used) : ab b1 ≠ some p := fun e => by
  obtain ⟨cur, hp⟩ := own_type h.row1 e
  obtain ⟨cur', hq⟩ := h.vecHead
  exact ne_type hq hp (by decide) rfl
theorem TabX.r0 (h : TabX w base t p r b0 c0 l0 b1 c1 l1 ps T most edits used) {g : Nat} (hg : r = some g) : ab b0 ≠ some g := fun e => by
  obtain ⟨cur, hp⟩ := own_type h.row0 e
  obtain ⟨cur', hq⟩ := h.rowType hg
  exact ne_type hq hp (by decide) rfl
theorem TabX.r1 (h : TabX w base t p r b0 c0 l0 b1 c1 l1 ps T most edits used) {g : Nat} (hg : r = some g) : ab b1 ≠ some g := fun e => by
  obtain ⟨cur, hp⟩ := own_type h.row1 e
  obtain ⟨cur', hq⟩ := h.rowType hg
  exact ne_type hq hp (by decide) rfl
theorem TabX.rp (h : TabX w base t p r b0 c0 l0 b1 c1 l1 ps T most edits used) : r ≠ some p := by
  obtain ⟨b, c, h1, h2, h3, h4, h5⟩ := h.vec
  exact h5

theorem TabX.foot_lt (h : TabX w base t p r b0 c0 l0 b1 c1 l1 ps T most edits used) {k : Nat} (hk : foot t p r b0 b1 k) : base ≤ k ∧ k < w.heap.size := by
  rcases hk with rfl | rfl | hk | hk | hk
  · exact ⟨h.bt, (Array.getElem?_eq_some_iff.1 h.head).1⟩
  · exact h.vec.lt
  · exact h.vec.rowLt k hk
  · exact h.row0.lt k (by rw [ab_own]; exact hk)
  · exact h.row1.lt k (by rw [ab_own]; exact hk)

theorem TabX.fr (h : TabX w base t p r b0 c0 l0 b1 c1 l1 ps T most edits used) {w' : World} {S : Nat → Prop} (hf : Fr S w w') (hs : ∀ k, foot t p r b0 b1 k → ¬ S k) : TabX w' base t p r b0 c0 l0 b1 c1 l1 ps T most edits used :=
  { h with
    head := (hf.block t (Array.getElem?_eq_some_iff.1 h.head).1 (hs t (.inl rfl))).trans h.head
    row0 := ownsRow_fr h.row0 hf (fun k hk => hs k (.inr (.inr (.inr (.inl (by rw [← ab_own]; exact hk))))))
    row1 := ownsRow_fr h.row1 hf (fun k hk => hs k (.inr (.inr (.inr (.inr (by rw [← ab_own]; exact hk))))))
    vec := h.vec.fr hf (hs p (.inr (.inl rfl))) (fun k hk => hs k (.inr (.inr (.inl hk)))) }

theorem TabX.below (h : TabX w base t p r b0 c0 l0 b1 c1 l1 ps T most edits used) {w' : World} (hb : Below w.heap.size w w') : TabX w' base t p r b0 c0 l0 b1 c1 l1 ps T most edits used :=
  h.fr (Fr.ofBelow hb (fun _ => False)) (by simp)

theorem TabX.more (h : TabX w base t p r b0 c0 l0 b1 c1 l1 ps T most edits used) {used' : Nat} (hu : used ≤ used') : TabX w base t p r b0 c0 l0 b1 c1 l1 ps T most edits used' :=
  { h with u0 := Nat.le_trans h.u0 hu, u1 := Nat.le_trans h.u1 hu, ue := Nat.le_trans h.ue hu }

theorem TabX.tot_len (h : TabX w base t p r b0 c0 l0 b1 c1 l1 ps T most edits used) : tot ps = T.length := by rw [← h.text, txt_length h.ok]

/-- The struct's cells. -/
theorem TabX.cells (h : TabX w base t p r b0 c0 l0 b1 c1 l1 ps T most edits used) : w.cell? ⟨t, 0, none⟩ = some (.slice b0 l0.length c0) ∧ w.cell? ⟨t, 1, none⟩ = some (.slice b1 l1.length c1) ∧ w.cell? ⟨t, 2, none⟩ = some (.pointer (some ⟨p, 0, none⟩)) ∧
    w.cell? ⟨t, 3, none⟩ = some (.int .i64 T.length) ∧ w.cell? ⟨t, 4, none⟩ = some (.int .i64 most) ∧ w.cell? ⟨t, 5, none⟩ = some (.int .i64 edits) := by
  refine ⟨?_, ?_, ?_, ?_, ?_, ?_⟩ <;> exact (cell_of_row w t _ _ _ _ h.head).trans (by simp)

theorem TabX.frozen (h : TabX w base t p r b0 c0 l0 b1 c1 l1 ps T most edits used) (o : Nat) : w.frozen? ⟨t, o, none⟩ = false := frozen_of_row w t o _ _ h.head

theorem len_any (h : TabX w base t p r b0 c0 l0 b1 c1 l1 ps T most edits used) :
    Calls Tryz.prog 37 #[.pointer (some ⟨t, 0, none⟩)] w fun e w' => e = .returned (.int .i64 T.length) ∧ w = w' := by
  obtain ⟨k0, k1, k2, k3, k4, k5⟩ := h.cells
  clear h k0 k1 k2 k4 k5
  go_enter Tryz.func37, Tryz.ntmps37
  go_wp2
  go_ret
  exact ⟨rfl, rfl⟩

theorem edits_any (h : TabX w base t p r b0 c0 l0 b1 c1 l1 ps T most edits used) :
    Calls Tryz.prog 42 #[.pointer (some ⟨t, 0, none⟩)] w fun e w' => e = .returned (.int .i64 edits) ∧ w = w' := by
  obtain ⟨k0, k1, k2, k3, k4, k5⟩ := h.cells
  clear h k0 k1 k2 k3 k4
  go_enter Tryz.func42, Tryz.ntmps42
  go_wp2
  go_ret
  exact ⟨rfl, rfl⟩

theorem pieces_any (h : TabX w base t p r b0 c0 l0 b1 c1 l1 ps T most edits used) :
    Calls Tryz.prog 41 #[.pointer (some ⟨t, 0, none⟩)] w fun e w' => e = .returned (.int .i64 ps.length) ∧ w = w' := by
  obtain ⟨k0, k1, k2, k3, k4, k5⟩ := h.cells
  have hv := VecP.len_any base p r _ _ w h.vec
  clear h k0 k1 k3 k4 k5
  go_enter Tryz.func41, Tryz.ntmps41
  go_wp2_with (go_at_call 64; refine hv.mono ?_; rintro e w' ⟨rfl, rfl⟩)
  go_ret
  exact ⟨rfl, rfl⟩

/-- Are there n bytes from off on? -/
abbrev inside (T : List UInt8) (off n : Int) : Prop := 0 ≤ off ∧ off ≤ T.length ∧ 0 ≤ n ∧ n ≤ T.length - off

theorem has_yes (h : TabX w base t p r b0 c0 l0 b1 c1 l1 ps T most edits used) {off n : Int} (hi : inside T off n) :
    Calls Tryz.prog 60 #[.pointer (some ⟨t, 0, none⟩), .int .i64 off, .int .i64 n] w fun e w' => e = .returned (.bool true) ∧ w = w' := by
  obtain ⟨k0, k1, k2, k3, k4, k5⟩ := h.cells
  have hm := h.fit
  have hm' := h.m64
  obtain ⟨h1, h2, h3, h4⟩ := hi
  have hT : (T.length : Int) ≤ 9223372036854775807 := by omega
  clear h k0 k1 k2 k4 k5 hm hm'
  go_enter Tryz.func60, Tryz.ntmps60
  go_wp2
  go_ret
  exact ⟨rfl, rfl⟩

theorem has_no (h : TabX w base t p r b0 c0 l0 b1 c1 l1 ps T most edits used) {off n : Int} (hi : ¬ inside T off n) :
    Calls Tryz.prog 60 #[.pointer (some ⟨t, 0, none⟩), .int .i64 off, .int .i64 n] w fun e w' => e = .returned (.bool false) ∧ w = w' := by
  obtain ⟨k0, k1, k2, k3, k4, k5⟩ := h.cells
  have hm := h.fit
  have hm' := h.m64
  have hT : (T.length : Int) ≤ 9223372036854775807 := by omega
  clear h k0 k1 k2 k4 k5 hm hm'
  by_cases h1 : 0 ≤ off
  · by_cases h2 : off ≤ T.length
    · by_cases h3 : 0 ≤ n
      · have h4 : ¬ (n ≤ T.length - off) := fun h4 => hi ⟨h1, h2, h3, h4⟩
        clear hi
        go_enter Tryz.func60, Tryz.ntmps60
        go_wp2
        go_ret
        exact ⟨rfl, rfl⟩
      · clear hi
        go_enter Tryz.func60, Tryz.ntmps60
        go_wp2
        go_ret
        exact ⟨rfl, rfl⟩
    · clear hi
      go_enter Tryz.func60, Tryz.ntmps60
      go_wp2
      go_ret
      exact ⟨rfl, rfl⟩
  · clear hi
    go_enter Tryz.func60, Tryz.ntmps60
    go_wp2
    go_ret
    exact ⟨rfl, rfl⟩
end

end Go.Proofs.YtfllgmgipmmpkaaGreatDoor.Tb
