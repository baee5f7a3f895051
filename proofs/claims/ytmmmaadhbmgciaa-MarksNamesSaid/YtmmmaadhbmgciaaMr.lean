/-
  The document's marks: what they are; Get.
-/
import Derived.Test.YtmmmaadhbmgciaaMj
import Derived.Test.YtmmmaadhbmgciaaQu
set_option linter.unusedVariables false
set_option linter.unusedSimpArgs false
set_option maxRecDepth 100000
namespace Go.Proofs.Ytmmmaadhbmgciaa.Mk
open Go Go.RowKit Go.Proofs.Ytmmmaadhbmgciaa.Vk Go.Proofs.Ytmmmaadhbmgciaa.Str Go.Proofs.Ytmmmaadhbmgciaa.Ln Go.Proofs.Ytmmmaadhbmgciaa.Cl Go.Proofs.Ytmmmaadhbmgciaa.Ml
attribute [local go_sem] Oper.semAt_some

abbrev EP : TypeId := 37
abbrev RT : TypeId := 35
theorem infoP : (Try.prog.info? EP).map (fun i => (i.zero, i.size, i.bytes)) = some (some (.agg #[.int .i64 0, .int .i64 0]), 2, 16) := by kernel_rfl
theorem underP : Try.prog.underlying 33 = some (.slice EP) := by kernel_rfl
/-- The cells of some places. -/
def flat (l : List P2) : List Value := l.flatMap fun x => [.int .i64 x.1, .int .i64 x.2]
theorem flat_append (a b : List P2) : flat (a ++ b) = flat a ++ flat b := by simp [flat]
theorem flat_one (x : P2) : flat [x] = [.int .i64 x.1, .int .i64 x.2] := rfl
theorem flat_cons (x : P2) (l : List P2) : flat (x :: l) = .int .i64 x.1 :: .int .i64 x.2 :: flat l := rfl
theorem flat_length (l : List P2) : (flat l).length = l.length * 2 := by
  induction l with
  | nil => rfl
  | cons x l ih => rw [flat_cons]; simp [ih]; omega
theorem flat_cells (l : List P2) : ∀ u ∈ flat l, u.oneCell' = true := by
  intro u hu
  obtain ⟨x, _, hx⟩ := List.mem_flatMap.1 hu
  simp only [List.mem_cons, List.not_mem_nil, or_false] at hx
  rcases hx with rfl | rfl <;> rfl
theorem flat_get : ∀ (l : List P2) (j : Nat) (hj : j < l.length), (flat l)[j * 2]? = some (.int .i64 l[j].1) ∧ (flat l)[j * 2 + 1]? = some (.int .i64 l[j].2)
  | x :: l, 0, _ => ⟨rfl, rfl⟩
  | x :: l, j + 1, hj => by
    have := flat_get l j (by simpa using hj)
    rw [flat_cons, show (j + 1) * 2 = j * 2 + 1 + 1 by omega]
    simpa using this
theorem flat_take (l : List P2) (i : Nat) (hi : i ≤ l.length) : (flat l).take (i * 2) = flat (l.take i) := by
  conv => lhs; rw [← List.take_append_drop i l, flat_append]
  exact List.take_left' (by rw [flat_length, List.length_take]; omega)
theorem flat_drop (l : List P2) (i : Nat) (hi : i ≤ l.length) : (flat l).drop (i * 2) = flat (l.drop i) := by
  conv => lhs; rw [← List.take_append_drop i l, flat_append]
  exact List.drop_left' (by rw [flat_length, List.length_take]; omega)
theorem SrcV.pos (w : World) (x y : Int) : SrcV (w.alloc (.cells #[.int .i64 x, .int .i64 y] EP)) 2 (.slice (some ⟨w.heap.size, 0, none⟩) 1 1) 1 [.int .i64 x, .int .i64 y] := by
  refine ⟨rfl, by simp [Value.oneCell'], by simp [maxLen], .inr ⟨w.heap.size, 0, 1, rfl, Nat.le_refl _, by simp [maxLen], fun j u hu => ?_⟩⟩
  rw [Nat.zero_add, cell_of_row _ _ j _ _ _ (heap_alloc_new w _)]
  simpa using hu
theorem own_row_cells {w : World} {base : Nat} {e : TypeId} {size : Nat} {v : Value} {n : Nat} {xs : List Value} (h : w.ownsRow base e size v n xs) (g : Nat) (hg : v.ownBlock = some g) : ∃ cs, w.heap[g]? = some (.cells cs e (0, 0)) := by
  rcases h.2 with ⟨rfl, _⟩ | ⟨g', cap, cur, rfl, _, hh, _⟩
  · cases hg
  · simp only [Value.ownBlock, Option.some.injEq] at hg
    subst hg
    exact ⟨cur, hh⟩

/-- The places, in the order of their names. -/
def plc (L : ML) : List P2 := L.map (·.2)
theorem length_plc (L : ML) : (plc L).length = L.length := by simp [plc]
theorem length_nms (L : ML) : (nms L).length = L.length := by simp [nms]
/-- The document's marks: block r leads to a row of names and a row of places, all from B on. -/
def Rfs (w : World) (B r : Nat) (L : ML) : Prop := ∃ a c a' c', w.heap[r]? = some (.cells #[.slice a L.length c, .slice a' L.length c'] RT (0, 0)) ∧ B ≤ r ∧
  w.ownsRow B TU 1 (.slice a L.length c) L.length (nbs (nms L)) ∧ w.ownsRow B EP 2 (.slice a' L.length c') L.length (flat (plc L))
/-- Its blocks. -/
def RBlk (w : World) (r k : Nat) : Prop := k = r ∨ ∃ x y t, w.heap[r]? = some (.cells #[x, y] t (0, 0)) ∧ (x.ownBlock = some k ∨ y.ownBlock = some k)
theorem Rfs.lt {w : World} {B r : Nat} {L : ML} (h : Rfs w B r L) : r < w.heap.size := by
  obtain ⟨a, c, a', c', h1, _⟩ := h
  exact (Array.getElem?_eq_some_iff.1 h1).1
theorem Rfs.blk {w : World} {B r k : Nat} {L : ML} (h : Rfs w B r L) (hk : RBlk w r k) : B ≤ k ∧ k < w.heap.size ∧ ∃ cs t, w.heap[k]? = some (.cells cs t (0, 0)) ∧ (t = RT ∨ t = TU ∨ t = EP) := by
  have hlt := h.lt
  obtain ⟨a, c, a', c', h1, h2, h3, h4⟩ := h
  rcases hk with rfl | ⟨x, y, t, e, hk⟩
  · exact ⟨h2, hlt, _, _, h1, .inl rfl⟩
  · rw [h1] at e
    simp only [Option.some.injEq, Obj.cells.injEq, Array.mk.injEq, List.cons.injEq, and_true] at e
    obtain ⟨⟨rfl, rfl⟩, rfl⟩ := e
    rcases hk with hk | hk
    · obtain ⟨cs, hcs⟩ := own_row_cells h3 k hk
      exact ⟨(h3.lt k hk).1, (h3.lt k hk).2, cs, _, hcs, .inr (.inl rfl)⟩
    · obtain ⟨cs, hcs⟩ := own_row_cells h4 k hk
      exact ⟨(h4.lt k hk).1, (h4.lt k hk).2, cs, _, hcs, .inr (.inr rfl)⟩
theorem Rfs.fr {S : Nat → Prop} {w w' : World} {B r : Nat} {L : ML} (h : Rfs w B r L) (hf : Fr S w w') (hs : ∀ k, RBlk w r k → ¬ S k) : Rfs w' B r L := by
  have hlt := h.lt
  obtain ⟨a, c, a', c', h1, h2, h3, h4⟩ := h
  exact ⟨a, c, a', c', (hf.block r hlt (hs r (.inl rfl))).trans h1, h2, ownsRow_fr h3 hf (fun k hk => hs k (.inr ⟨_, _, _, h1, .inl hk⟩)), ownsRow_fr h4 hf (fun k hk => hs k (.inr ⟨_, _, _, h1, .inr hk⟩))⟩
theorem Rfs.below {w w' : World} {B r : Nat} {L : ML} (h : Rfs w B r L) (hb : Below w.heap.size w w') : Rfs w' B r L := h.fr (Fr.ofBelow hb (fun _ => False)) (fun _ _ h => h)
theorem RBlk.back {w w' : World} {r k : Nat} (h : RBlk w' r k) (he : w'.heap[r]? = w.heap[r]?) : RBlk w r k := by
  rcases h with rfl | ⟨x, y, t, e, hk⟩
  · exact .inl rfl
  · exact .inr ⟨x, y, t, he ▸ e, hk⟩
/-- Neither the package's marks nor their map are blocks of the document's. -/
theorem apart {w : World} {B r m b : Nat} {L L' : ML} (h : Rfs w B r L) (hm : Mks w m b L') : ¬ RBlk w r m ∧ ¬ RBlk w r b := by
  refine ⟨fun hk => ?_, fun hk => ?_⟩
  · obtain ⟨_, _, cs, t, e, ht⟩ := h.blk hk
    rw [hm.1] at e
    simp only [Option.some.injEq, Obj.cells.injEq] at e
    rcases ht with rfl | rfl | rfl <;> exact absurd e.2.1 (by decide)
  · obtain ⟨_, _, cs, t, e, ht⟩ := h.blk hk
    obtain ⟨es, clock, hb⟩ := hm.2.block
    rw [hb] at e
    cases e
theorem Rfs.new (w : World) : Rfs (w.alloc (.cells #[.slice none 0 0, .slice none 0 0] RT)) w.heap.size w.heap.size [] :=
  ⟨none, 0, none, 0, heap_alloc_new w _, Nat.le_refl _, World.ownsRow_nil _ _ _ _, World.ownsRow_nil _ _ _ _⟩
theorem Rfs.mono {w : World} {B B' r : Nat} {L : ML} (h : Rfs w B r L) (hb : B' ≤ B) : Rfs w B' r L := by
  obtain ⟨a, c, a', c', h1, h2, h3, h4⟩ := h
  exact ⟨a, c, a', c', h1, by omega, ownsRow_mono h3 hb, ownsRow_mono h4 hb⟩

theorem look_at {L : ML} {c k : Nat} (hk : k < L.length) (hb : ∀ j, ∀ h : j < L.length, j < k → L[j].1 ≠ c) (he : L[k].1 = c) : lk L c = some L[k].2 := by
  induction L generalizing k with
  | nil => simp at hk
  | cons x L ih =>
    cases k with
    | zero => exact look_eq he
    | succ k =>
      have h0 : x.1 ≠ c := hb 0 (by simp) (by omega)
      rw [look_ne h0]
      exact ih (by simpa using hk) (fun j h hj => hb (j + 1) (by simpa using h) (by omega)) he
theorem look_out {L : ML} {c : Nat} (hb : ∀ j, ∀ h : j < L.length, j < L.length → L[j].1 ≠ c) : lk L c = none :=
  look_none fun x hx => by
    obtain ⟨i, hi, rfl⟩ := List.getElem_of_mem hx
    exact hb i hi hi
/-- What is read of a name, of a place. -/
theorem Rfs.name {w : World} {B n : Nat} {a : Option Addr} {c : Nat} {L : ML} (h : w.ownsRow B TU 1 (.slice a n c) n (nbs (nms L))) (k : Nat) (hk : k < L.length) :
    ∃ g o, a = some ⟨g, o, none⟩ ∧ w.cell? ⟨g, o + k, none⟩ = some (.int .u8 (L[k].1 : Int)) ∧ n ≤ c := by
  obtain ⟨g, o, h1, h2, h3, _⟩ := (SrcV.ofOwn h (nbs_one _)).at (j := k) (u := .int .u8 (L[k].1 : Int)) (by simp [nbs, nms, hk])
  exact ⟨g, o, h1, h2, h3⟩
theorem Rfs.place {w : World} {B n : Nat} {a : Option Addr} {c : Nat} {L : ML} (h : w.ownsRow B EP 2 (.slice a n c) n (flat (plc L))) (k : Nat) (hk : k < L.length) :
    ∃ g o, a = some ⟨g, o, none⟩ ∧ w.cell? ⟨g, o + k * 2, none⟩ = some (.int .i64 L[k].2.1) ∧ w.cell? ⟨g, o + k * 2 + 1, none⟩ = some (.int .i64 L[k].2.2) ∧ n ≤ c := by
  have hlen := h.1
  rw [flat_length, length_plc] at hlen
  obtain ⟨_, _, _, ⟨ao, he, h0⟩ | ⟨g, o, c', he, hc, _, hcell⟩⟩ := SrcV.ofOwn h (flat_cells _)
  · omega
  · injection he with e1 e2 e3
    subst e1 e3
    obtain ⟨g1, g2⟩ := flat_get (plc L) k (by rw [length_plc]; exact hk)
    have e1 : (plc L)[k]'(by rw [length_plc]; exact hk) = L[k].2 := by simp [plc]
    rw [e1] at g1 g2
    exact ⟨g, o, rfl, hcell _ _ g1, by have := hcell _ _ g2; rwa [← Nat.add_assoc] at this, hc⟩

theorem get13_any (r B : Nat) (L : ML) (c : Nat) (w : World) (h : Rfs w B r L) (hc : c < 256) (hl : L.length ≤ 27) : Calls Try.prog 17 #[.pointer (some ⟨r, 0, none⟩), .int .u8 (c : Int)] w fun e w' =>
    e = .returned (.tuple #[.agg #[.int .i64 (lz (lk L c)).1, .int .i64 (lz (lk L c)).2], .bool (lk L c).isSome]) ∧ Below w.heap.size w w' := by
  obtain ⟨a, ac, a', ac', h1, h2, h3, h4⟩ := h
  have hrl := (Array.getElem?_eq_some_iff.1 h1).1
  obtain ⟨N, hN⟩ : ∃ N, N = L.length := ⟨_, rfl⟩
  have c0 : w.cell? ⟨r, 0, none⟩ = some (.slice a N ac) := by rw [hN]; exact (cell_of_row w _ 0 _ _ _ h1).trans (by simp)
  have c1 : w.cell? ⟨r, 1, none⟩ = some (.slice a' N ac') := by rw [hN]; exact (cell_of_row w _ 1 _ _ _ h1).trans (by simp)
  rw [← hN] at h3 h4 hl
  obtain ⟨A, hA⟩ : ∃ A, A = lk L c := ⟨_, rfl⟩
  rw [← hA]
  have HA := Lib.hid hA
  clear hA
  have HN := Lib.hid hN
  have HC := Lib.hid (And.intro c0 c1)
  have H3 := Lib.hid h3
  have H4 := Lib.hid h4
  clear hN h1 h2 h3 h4 c0 c1
  go_enter Try.func17, Try.ntmps17
  go_wp2
  obtain ⟨w1, hw1⟩ : ∃ w1, w1 = w.alloc (.cells #[.int .i64 0, .int .i64 0] 37) := ⟨_, rfl⟩
  have HB := Lib.hid (show Below w.heap.size w w1 by rw [hw1]; exact (Below.refl _ _).alloc (Nat.le_refl _) _)
  have HP := Lib.hid (show PosAt w1 w.heap.size 0 0 by rw [hw1]; exact PosAt.new w 0 0)
  obtain ⟨g, hg⟩ : ∃ g, g = w.heap.size := ⟨_, rfl⟩
  rw [← hw1]
  rw [← hg] at HP ⊢
  have HG := Lib.hid hg
  clear hw1 hg
  have c0 := cell_later HB.out HC.out.1
  have c1 := cell_later HB.out HC.out.2
  go_loopw [6] (fun i wr => ∃ k : Nat, k ≤ N ∧ i = .int .i64 k ∧ wr = w1 ∧ Hid (∀ j, ∀ h : j < L.length, j < k → L[j].1 ≠ c)) (fun i _ => N - (RowKit.intOf i).toNat)
  case atStart => exact ⟨0, Nat.zero_le _, rfl, rfl, fun j h hj => by omega⟩
  case round =>
    obtain ⟨k, hk, rfl, rfl, HW⟩ := hrel
    by_cases hkN : k < N
    · have hkL : k < L.length := by have := HN.out; omega
      obtain ⟨ga, oa, rfl, hn1, hn2⟩ := Rfs.name H3.out k hkL
      have hn1 := cell_later HB.out hn1
      obtain ⟨d, hd⟩ : ∃ d, d = L[k].1 := ⟨_, rfl⟩
      rw [← hd] at hn1
      by_cases hdc : d = c
      · have hlk := look_at hkL HW.out (hd ▸ hdc)
        subst hdc
        obtain ⟨gb, ob, rfl, hp1, hp2, hp3⟩ := Rfs.place H4.out k hkL
        have hp1 := cell_later HB.out hp1
        have hp2 := cell_later HB.out hp2
        obtain ⟨x, hx⟩ : ∃ x, x = L[k].2.1 := ⟨_, rfl⟩
        obtain ⟨y, hy⟩ : ∃ y, y = L[k].2.2 := ⟨_, rfl⟩
        rw [← hx] at hp1
        rw [← hy] at hp2
        have HE := Lib.hid (show A = some (x, y) by rw [HA.out, hlk, hx, hy])
        clear hd hlk hx hy
        have q0 := HP.out.c0
        have q1 := HP.out.c1
        have z := HP.out.z
        go_wp2
        refine ret_ps (g := g) rfl rfl rfl rfl (PosAt.set HP.out x y) ⟨by rw [HE.out]; rfl, ?_⟩
        exact (HB.out.setCell (p := ⟨g, 0, none⟩) (Nat.le_of_eq HG.out.symm) _).setCell (p := ⟨g, 1, none⟩) (Nat.le_of_eq HG.out.symm) _
      · have HW' : Hid (∀ j, ∀ h : j < L.length, j < k + 1 → L[j].1 ≠ c) := fun j h hj => by
          by_cases e : j = k
          · subst e; rw [← hd]; exact hdc
          · exact HW.out j h (by omega)
        have hne : ((d : Int) == (c : Int)) = false := by rw [beq_eq_false_iff_ne]; omega
        clear hd HW hdc
        go_wp2
        go_roundw
        case rel => exact ⟨k + 1, by omega, by go_num, trivial, HW'⟩
        case measure => simp [RowKit.intOf]; omega
    · obtain rfl : k = N := by omega
      have hlk := look_out (c := c) (fun j h _ => HW.out j h (by have := HN.out; omega))
      have HE := Lib.hid (show A = none by rw [HA.out, hlk])
      clear hlk HW
      have q0 := HP.out.c0
      have q1 := HP.out.c1
      have z := HP.out.z
      go_wp2
      refine ret_ps (g := g) rfl rfl rfl rfl (PosAt.set HP.out 0 0) ⟨by rw [HE.out]; rfl, ?_⟩
      exact (HB.out.setCell (p := ⟨g, 0, none⟩) (Nat.le_of_eq HG.out.symm) _).setCell (p := ⟨g, 1, none⟩) (Nat.le_of_eq HG.out.symm) _
end Go.Proofs.Ytmmmaadhbmgciaa.Mk
