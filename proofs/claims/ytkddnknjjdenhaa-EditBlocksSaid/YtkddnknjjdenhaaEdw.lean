/-
  Package edit: Write, and the document's.
-/
import Derived.Test.YtkddnknjjdenhaaEdb
import Derived.Test.YtkddnknjjdenhaaRt
set_option linter.unusedVariables false
set_option linter.unusedSimpArgs false
set_option maxRecDepth 100000
namespace Go.Proofs.Ytkddnknjjdenhaa.Ed
open Go Go.RowKit Go.Proofs.Ytkddnknjjdenhaa.Vk Go.Proofs.Ytkddnknjjdenhaa.Str Go.Proofs.Ytkddnknjjdenhaa.Ln Go.Proofs.Ytkddnknjjdenhaa.Cl Go.Proofs.Ytkddnknjjdenhaa.Mv
attribute [local go_sem] Oper.semAt_some

/-! ### what is written -/
def w1L (s : ByteArray) (c : Nat) (tx : List ByteArray) : List ByteArray := tx.set 0 (s.extract 0 c ++ lineAt tx 0)
def w2L (s : ByteArray) (c : Nat) (tx : List ByteArray) : List ByteArray := (w1L s c tx).set (tx.length - 1) (lineAt (w1L s c tx) (tx.length - 1) ++ s.extract c s.size)
theorem w1L_length (s : ByteArray) (c : Nat) (tx : List ByteArray) : (w1L s c tx).length = tx.length := by unfold w1L; rw [List.length_set]
theorem w2L_length (s : ByteArray) (c : Nat) (tx : List ByteArray) : (w2L s c tx).length = tx.length := by unfold w2L; rw [List.length_set, w1L_length]
abbrev WA := Ch × (Int × Int) × Bool
def wrt (ls : List ByteArray) (l c : Int) (tx : List ByteArray) : WA :=
  if Plc ls l c ∧ 0 < tx.length then
    ((l, cutL ls l.toNat l.toNat, w2L (lineAt ls l.toNat) c.toNat tx), (l + ((tx.length - 1 : Nat) : Int), ((lineAt (w1L (lineAt ls l.toNat) c.toNat tx) (tx.length - 1)).size : Int)), true)
  else ((0, [], []), (0, 0), false)
def WOut (w : World) (r : WA) (e : Ending) (w' : World) : Prop := ∃ x : Rw, e = .returned (.tuple #[cv x, .agg #[.int .i64 r.2.1.1, .int .i64 r.2.1.2], .bool r.2.2]) ∧ CW w' x r.1 ∧ Below w.heap.size w w'

/-! ### a row of one's own, variables -/
theorem own_set1 {w : World} {B g n c k : Nat} {xs : List Value} (h : w.ownsRow B ES 1 (.slice (some ⟨g, 0, none⟩) n c) n xs) (hk : k < n) (v : Value) :
    (w.setCell ⟨g, k, none⟩ v).ownsRow B ES 1 (.slice (some ⟨g, 0, none⟩) n c) n (xs.set k v) := by
  have hl := h.1
  rcases h.2 with ⟨he, _⟩ | ⟨g', cap, cur, he, hb, hg, h1, h2, h3, h4⟩
  · cases he
  · simp only [Value.slice.injEq, Option.some.injEq, Addr.mk.injEq, and_true, true_and] at he
    obtain ⟨rfl, rfl⟩ := he
    have e1 := heap_setCell_same w g k _ _ v hg
    refine ⟨by rw [List.length_set]; exact hl, .inr ⟨g, c, _, rfl, hb, e1, h1, h2, by simpa using h3, ?_⟩⟩
    rw [← h4]
    simp [List.take_set]
theorem own_some {w : World} {B n c : Nat} {a : Option Addr} {xs : List Value} (h : w.ownsRow B ES 1 (.slice a n c) n xs) (h0 : 0 < n) : ∃ g, a = some ⟨g, 0, none⟩ ∧ B ≤ g := by
  rcases h.2 with ⟨he, h0'⟩ | ⟨g', cap, cur, he, hb, hg, h1, h2, h3, h4⟩
  · omega
  · injection he with e1 _ _
    exact ⟨g', e1, hb⟩
theorem own_z {w : World} {B n c g : Nat} {xs : List Value} (h : w.ownsRow B ES 1 (.slice (some ⟨g, 0, none⟩) n c) n xs) (k : Nat) : w.frozen? ⟨g, k, none⟩ = false := by
  rcases h.2 with ⟨he, h0'⟩ | ⟨g', cap, cur, he, hb, hg, h1, h2, h3, h4⟩
  · cases he
  · injection he with e1 _ _
    injection e1 with e1
    injection e1 with e1
    subst e1
    exact frozen_of_row w _ k _ _ hg
theorem own_lt {w : World} {B n c g : Nat} {xs : List Value} (h : w.ownsRow B ES 1 (.slice (some ⟨g, 0, none⟩) n c) n xs) : g < w.heap.size := by
  rcases h.2 with ⟨he, h0'⟩ | ⟨g', cap, cur, he, hb, hg, h1, h2, h3, h4⟩
  · cases he
  · injection he with e1 _ _
    injection e1 with e1
    injection e1 with e1
    subst e1
    exact (Array.getElem?_eq_some_iff.1 hg).1
theorem own_cap {w : World} {B n c g : Nat} {xs : List Value} (h : w.ownsRow B ES 1 (.slice (some ⟨g, 0, none⟩) n c) n xs) : n ≤ c ∧ c ≤ 9223372036854775807 := by
  rcases h.2 with ⟨he, h0'⟩ | ⟨g', cap, cur, he, hb, hg, h1, h2, h3, h4⟩
  · cases he
  · injection he with _ _ e3
    subst e3
    unfold maxLen at h2
    exact ⟨h1, h2⟩
/-- A line of a row of one's own. -/
theorem own_at {w : World} {B n c g k : Nat} {L : List ByteArray} (h : w.ownsRow B ES 1 (.slice (some ⟨g, 0, none⟩) n c) n (L.map .string)) (hk : k < n) : w.cell? ⟨g, k, none⟩ = some (.string (lineAt L k)) := by
  have hs : Ss w (some ⟨g, 0, none⟩) n c L := SrcV.ofOwn h (one_cells _)
  have hl := hs.length
  obtain ⟨b, o, he, hc, _⟩ := Ss.read hs k (by omega)
  injection he with he
  injection he with e1 e2
  subst e1 e2
  rw [Nat.zero_add] at hc
  rw [lineAt_get (by omega)]
  exact hc
theorem own_map {w : World} {B n c g k : Nat} {L : List ByteArray} {s : ByteArray} (h : w.ownsRow B ES 1 (.slice (some ⟨g, 0, none⟩) n c) n (L.map .string)) (hk : k < n) : (w.setCell ⟨g, k, none⟩ (.string s)).ownsRow B ES 1 (.slice (some ⟨g, 0, none⟩) n c) n ((L.set k s).map .string) := by
  have h1 := own_set1 h hk (.string s)
  rwa [← List.map_set] at h1
def putP (w : World) (g : Nat) (l c : Int) : World := (w.setCell ⟨g, 0, none⟩ (.int .i64 l)).setCell ⟨g, 1, none⟩ (.int .i64 c)
theorem putP_fr (w : World) (g : Nat) (l c : Int) : Fr (fun j => j = g) w (putP w g l c) :=
  ((Fr.refl (fun j => j = g) w).setCell (p := ⟨g, 0, none⟩) (fun _ => rfl) (.int .i64 l)).setCell (p := ⟨g, 1, none⟩) (fun _ => rfl) (.int .i64 c)
theorem putP_at {w : World} {g : Nat} {x y : Int} (h : PosAt w g x y) (l c : Int) : PosAt (putP w g l c) g l c := by
  have h1 := (heap_setCell_same w g 0 _ _ (.int .i64 l) h)
  exact (heap_setCell_same _ g 1 _ _ (.int .i64 c) h1).trans (by simp)
theorem putP_below {w0 w : World} {B g : Nat} (hb : Below B w0 w) (hg : B ≤ g) (l c : Int) : Below B w0 (putP w g l c) :=
  (hb.setCell (p := ⟨g, 0, none⟩) hg (.int .i64 l)).setCell (p := ⟨g, 1, none⟩) hg (.int .i64 c)
theorem pos_fr {S : Nat → Prop} {w w' : World} {g : Nat} {l c : Int} (h : PosAt w g l c) (hf : Fr S w w') (hg : ¬ S g) : PosAt w' g l c := (hf.block g h.lt hg).trans h
theorem pos_z {w : World} {g : Nat} {l c : Int} (h : PosAt w g l c) (k : Nat) : w.frozen? ⟨g, k, none⟩ = false := frozen_of_row w _ k _ _ h
/-- A row of strings lies in no variable of another kind. -/
theorem row_cell {w : World} {s : Sl} {ls : List ByteArray} {k : Nat} (h : SS w s ls) (h0 : 0 < s.2.1) (hk : blk (sv s) = some k) : ∃ o t, w.cell? ⟨k, o, none⟩ = some (.string t) := by
  obtain ⟨a, n, c⟩ := s
  have hl := Ss.length h
  simp only at h0 hl
  obtain ⟨b, o, he, hc, _⟩ := Ss.read h 0 (by show 0 < ls.length; omega)
  simp only at he
  subst he
  simp only [sv, blk, Option.some.injEq] at hk
  subst hk
  exact ⟨_, _, hc⟩
theorem not_ch {w : World} {k o : Nat} {x : Rw} {t : ByteArray} (h : ChAt w k x) (hc : w.cell? ⟨k, o, none⟩ = some (.string t)) : False := by
  rw [cell_of_row w _ o _ _ _ h] at hc
  match o with
  | 0 => simp at hc
  | 1 => simp [sv] at hc
  | 2 => simp [sv] at hc
  | o + 3 => simp at hc
theorem not_pos {w : World} {k o : Nat} {l c : Int} {t : ByteArray} (h : PosAt w k l c) (hc : w.cell? ⟨k, o, none⟩ = some (.string t)) : False := by
  rw [cell_of_row w _ o _ _ _ h] at hc
  match o with
  | 0 => simp at hc
  | 1 => simp at hc
  | o + 2 => simp at hc
theorem SS.kept {S : Nat → Prop} {w w' : World} {s : Sl} {ls : List ByteArray} (h : SS w s ls) (hf : Fr S w w') (hs : ∀ k, S k → (∃ y, ChAt w k y) ∨ ∃ l c, PosAt w k l c) : SS w' s ls :=
  SrcV.fr h hf fun h0 k hk hS => by
    obtain ⟨o, t, hc⟩ := row_cell h h0 hk
    rcases hs k hS with ⟨y, hy⟩ | ⟨l, c, hy⟩
    · exact not_ch hy hc
    · exact not_pos hy hc
theorem CW.kept {S : Nat → Prop} {w w' : World} {x : Rw} {c : Ch} (h : CW w x c) (hf : Fr S w w') (hs : ∀ k, S k → (∃ y, ChAt w k y) ∨ ∃ l c, PosAt w k l c) : CW w' x c :=
  ⟨h.1, h.2.1.kept hf hs, h.2.2.kept hf hs⟩
theorem CW.putC {w : World} {x y z : Rw} {c : Ch} {g : Nat} (h : CW w x c) (hg : ChAt w g y) : CW (putC w g z) x c := h.kept (putC_fr w g z) (fun k e => by subst e; exact .inl ⟨_, hg⟩)
theorem CW.putP {w : World} {x : Rw} {c : Ch} {g : Nat} {l m l' m' : Int} (h : CW w x c) (hg : PosAt w g l m) : CW (putP w g l' m') x c := h.kept (putP_fr w g l' m') (fun k e => by subst e; exact .inr ⟨_, _, hg⟩)

/-- What stands between the operations of Write: the place, the two variables for the answer. -/
structure Wq (w V : World) (l c : Int) : Prop where
  below : Below w.heap.size w V
  pos : PosAt V w.heap.size l c
  ch : ChAt V (w.heap.size + 1) (0, (none, 0, 0), (none, 0, 0))
  ps : PosAt V (w.heap.size + 2) 0 0
section
variable {w V V' : World} {l c : Int}
theorem Wq.on (h : Wq w V l c) (hb : Below V.heap.size V V') : Wq w V' l c := ⟨below_on h.below hb, h.pos.below hb h.pos.lt, h.ch.below hb h.ch.lt, h.ps.below hb h.ps.lt⟩
theorem Wq.size (h : Wq w V l c) : w.heap.size + 3 ≤ V.heap.size := by have := h.ps.lt; omega
theorem Wq.put (h : Wq w V l c) {g k : Nat} {v : Value} (hg : w.heap.size + 3 ≤ g) : Wq w (V.setCell ⟨g, k, none⟩ v) l c :=
  ⟨h.below.setCell (p := ⟨g, k, none⟩) (by show w.heap.size ≤ g; omega) v, h.pos.other (by omega), (Below.heap_setCell _ _ _ _ (show w.heap.size + 1 ≠ g by omega)).trans h.ch, h.ps.other (by omega)⟩
theorem Wq.new (w : World) (l c : Int) : Wq w (((w.alloc (.cells #[.int .i64 l, .int .i64 c] 24)).alloc (.cells #[.int .i64 0, .slice none 0 0, .slice none 0 0] TC)).alloc (.cells #[.int .i64 0, .int .i64 0] 24)) l c := by
  refine ⟨below_on (one_below _ _) (below_on (one_below _ _) (one_below _ _)), ?_, ?_, ?_⟩
  · exact (PosAt.new w l c).below (below_on (one_below _ _) (one_below _ _)) (by simp)
  · have h := (ChAt.new (w.alloc (.cells #[.int .i64 l, .int .i64 c] 24)) (0, (none, 0, 0), (none, 0, 0))).below (one_below _ (.cells #[.int .i64 0, .int .i64 0] 24)) (by simp)
    rw [show (w.alloc (.cells #[.int .i64 l, .int .i64 c] 24)).heap.size = w.heap.size + 1 by simp] at h
    exact h
  · have h := PosAt.new ((w.alloc (.cells #[.int .i64 l, .int .i64 c] 24)).alloc (.cells #[.int .i64 0, .slice none 0 0, .slice none 0 0] TC)) 0 0
    rw [show ((w.alloc (.cells #[.int .i64 l, .int .i64 c] 24)).alloc (.cells #[.int .i64 0, .slice none 0 0, .slice none 0 0] TC)).heap.size = w.heap.size + 2 by simp] at h
    exact h
/-- The answer is no. -/
theorem Wq.no (h : Wq w V l c) : ChAt (Ed.putC V (w.heap.size + 1) (0, (none, 0, 0), (none, 0, 0))) (w.heap.size + 1) (0, (none, 0, 0), (none, 0, 0)) ∧ True := ⟨h.ch.set _, trivial⟩
end
theorem own_base {w : World} {B B' n c : Nat} {a : Option Addr} {xs : List Value} (h : w.ownsRow B ES 1 (.slice a n c) n xs) (hb : B' ≤ B) : w.ownsRow B' ES 1 (.slice a n c) n xs := by
  refine ⟨h.1, ?_⟩
  rcases h.2 with ⟨he, h0'⟩ | ⟨g', cap, cur, he, hb2, hg, h1, h2, h3, h4⟩
  · exact .inl ⟨he, h0'⟩
  · exact .inr ⟨g', cap, cur, he, Nat.le_trans hb hb2, hg, h1, h2, h3, h4⟩

set_option maxHeartbeats 4000000 in
theorem write_any (a : Option Addr) (n c' : Nat) (ls : List ByteArray) (l c : Int) (ta : Option Addr) (tn tc : Nat) (tx : List ByteArray) (w : World) (h : Ss w a n c' ls) (hs : ∀ s ∈ ls, s.size ≤ 140737488355328) (ht : Ss w ta tn tc tx) (hts : ∀ s ∈ tx, s.size ≤ 140737488355328) (hn : n ≤ 1000000) (htn : tn ≤ 1000000) :
    Calls Try.prog 13 #[.slice a n c', .agg #[.int .i64 l, .int .i64 c], .slice ta tn tc] w fun e w' => WOut w (wrt ls l c tx) e w' := by
  obtain ⟨i0, hi0, hz0, hz1, hz2⟩ := info_parts infoS
  have hlen := h.length
  have htl := ht.length
  obtain ⟨X, hX⟩ : ∃ X, X = ((w.alloc (.cells #[.int .i64 l, .int .i64 c] 24)).alloc (.cells #[.int .i64 0, .slice none 0 0, .slice none 0 0] TC)).alloc (.cells #[.int .i64 0, .int .i64 0] 24) := ⟨_, rfl⟩
  have hq : Wq w X l c := by rw [hX]; exact Wq.new w l c
  have hin := inside_any a n c' ls l c X (SrcV.below h hq.below) hs
  have H := Lib.hid (And.intro (show X = ((w.alloc (.cells #[.int .i64 l, .int .i64 c] 24)).alloc (.cells #[.int .i64 0, .slice none 0 0, .slice none 0 0] 31)).alloc (.cells #[.int .i64 0, .int .i64 0] 24) from hX) hq)
  have HS := Lib.hid (And.intro h (And.intro ht (And.intro hs hts)))
  clear hX hq h ht hs hts
  by_cases hp : Plc ls l c
  rotate_left
  · rw [decide_eq_false hp] at hin
    rw [show wrt ls l c tx = ((0, [], []), (0, 0), false) from if_neg fun h => hp h.1]
    clear hp
    go_enter Try.func13, Try.ntmps13
    go_wp2_with fail
    rw [← H.out.1]
    refine hin.mono ?_
    rintro e w1 ⟨rfl, hb1⟩
    have hq1 := H.out.2.on hb1
    have m0 := hq1.ch.c0
    have m1 : w1.cell? ⟨w.heap.size + 1, 1, none⟩ = some (.slice none 0 0) := hq1.ch.c1
    have m2 : w1.cell? ⟨w.heap.size + 1, 2, none⟩ = some (.slice none 0 0) := hq1.ch.c2
    have z := hq1.ch.z
    have n0 := hq1.ps.c0
    have n1 := hq1.ps.c1
    have zz := pos_z hq1.ps
    have y0 := pos_fr hq1.ps (putC_fr w1 (w.heap.size + 1) (0, (none, 0, 0), (none, 0, 0))) (by omega)
    have n2 : (((w1.setCell ⟨w.heap.size + 1, 0, none⟩ (.int .i64 0)).setCell ⟨w.heap.size + 1, 1, none⟩ (.slice none 0 0)).setCell ⟨w.heap.size + 1, 2, none⟩ (.slice none 0 0)).cell? ⟨w.heap.size + 2, 0, none⟩ = some (.int .i64 0) := y0.c0
    have n3 : (((w1.setCell ⟨w.heap.size + 1, 0, none⟩ (.int .i64 0)).setCell ⟨w.heap.size + 1, 1, none⟩ (.slice none 0 0)).setCell ⟨w.heap.size + 1, 2, none⟩ (.slice none 0 0)).cell? ⟨w.heap.size + 2, 1, none⟩ = some (.int .i64 0) := y0.c1
    have z2 : ∀ k, (((w1.setCell ⟨w.heap.size + 1, 0, none⟩ (.int .i64 0)).setCell ⟨w.heap.size + 1, 1, none⟩ (.slice none 0 0)).setCell ⟨w.heap.size + 1, 2, none⟩ (.slice none 0 0)).frozen? ⟨w.heap.size + 2, k, none⟩ = false := pos_z y0
    have HF : Hid (ChAt (putP (putC w1 (w.heap.size + 1) (0, (none, 0, 0), (none, 0, 0))) (w.heap.size + 2) 0 0) (w.heap.size + 1) (0, (none, 0, 0), (none, 0, 0)) ∧ PosAt (putP (putC w1 (w.heap.size + 1) (0, (none, 0, 0), (none, 0, 0))) (w.heap.size + 2) 0 0) (w.heap.size + 2) 0 0 ∧ Below w.heap.size w (putP (putC w1 (w.heap.size + 1) (0, (none, 0, 0), (none, 0, 0))) (w.heap.size + 2) 0 0)) :=
      ⟨(hq1.ch.set _).fr (putP_fr _ _ _ _) (by omega), putP_at y0 0 0, putP_below (putC_below hq1.below (by omega) _) (by omega) 0 0⟩
    clear hin hb1 hq1 y0
    go_wp2
    exact ret_cpb (g := w.heap.size + 1) (g2 := w.heap.size + 2) rfl rfl rfl rfl rfl HF.out.1 HF.out.2.1 ⟨_, rfl, CW.zero _, HF.out.2.2⟩
  rw [decide_eq_true hp] at hin
  by_cases h0 : 0 < tn
  rotate_left
  · obtain rfl : tn = 0 := by omega
    rw [show wrt ls l c tx = ((0, [], []), (0, 0), false) from if_neg fun h => by have := h.2; omega]
    clear hp
    go_enter Try.func13, Try.ntmps13
    go_wp2_with fail
    rw [← H.out.1]
    refine hin.mono ?_
    rintro e w1 ⟨rfl, hb1⟩
    have hq1 := H.out.2.on hb1
    have m0 := hq1.ch.c0
    have m1 : w1.cell? ⟨w.heap.size + 1, 1, none⟩ = some (.slice none 0 0) := hq1.ch.c1
    have m2 : w1.cell? ⟨w.heap.size + 1, 2, none⟩ = some (.slice none 0 0) := hq1.ch.c2
    have z := hq1.ch.z
    have n0 := hq1.ps.c0
    have n1 := hq1.ps.c1
    have zz := pos_z hq1.ps
    have y0 := pos_fr hq1.ps (putC_fr w1 (w.heap.size + 1) (0, (none, 0, 0), (none, 0, 0))) (by omega)
    have n2 : (((w1.setCell ⟨w.heap.size + 1, 0, none⟩ (.int .i64 0)).setCell ⟨w.heap.size + 1, 1, none⟩ (.slice none 0 0)).setCell ⟨w.heap.size + 1, 2, none⟩ (.slice none 0 0)).cell? ⟨w.heap.size + 2, 0, none⟩ = some (.int .i64 0) := y0.c0
    have n3 : (((w1.setCell ⟨w.heap.size + 1, 0, none⟩ (.int .i64 0)).setCell ⟨w.heap.size + 1, 1, none⟩ (.slice none 0 0)).setCell ⟨w.heap.size + 1, 2, none⟩ (.slice none 0 0)).cell? ⟨w.heap.size + 2, 1, none⟩ = some (.int .i64 0) := y0.c1
    have z2 : ∀ k, (((w1.setCell ⟨w.heap.size + 1, 0, none⟩ (.int .i64 0)).setCell ⟨w.heap.size + 1, 1, none⟩ (.slice none 0 0)).setCell ⟨w.heap.size + 1, 2, none⟩ (.slice none 0 0)).frozen? ⟨w.heap.size + 2, k, none⟩ = false := pos_z y0
    have HF : Hid (ChAt (putP (putC w1 (w.heap.size + 1) (0, (none, 0, 0), (none, 0, 0))) (w.heap.size + 2) 0 0) (w.heap.size + 1) (0, (none, 0, 0), (none, 0, 0)) ∧ PosAt (putP (putC w1 (w.heap.size + 1) (0, (none, 0, 0), (none, 0, 0))) (w.heap.size + 2) 0 0) (w.heap.size + 2) 0 0 ∧ Below w.heap.size w (putP (putC w1 (w.heap.size + 1) (0, (none, 0, 0), (none, 0, 0))) (w.heap.size + 2) 0 0)) :=
      ⟨(hq1.ch.set _).fr (putP_fr _ _ _ _) (by omega), putP_at y0 0 0, putP_below (putC_below hq1.below (by omega) _) (by omega) 0 0⟩
    clear hin hb1 hq1 y0
    go_wp2
    exact ret_cpb (g := w.heap.size + 1) (g2 := w.heap.size + 2) rfl rfl rfl rfl rfl HF.out.1 HF.out.2.1 ⟨_, rfl, CW.zero _, HF.out.2.2⟩
  have HW : Hid (wrt ls l c tx = ((l, cutL ls l.toNat l.toNat, w2L (lineAt ls l.toNat) c.toNat tx), (l + ((tx.length - 1 : Nat) : Int), ((lineAt (w1L (lineAt ls l.toNat) c.toNat tx) (tx.length - 1)).size : Int)), true)) := if_pos ⟨hp, by omega⟩
  rw [HW.out]
  obtain ⟨i, k, rfl, rfl, hi, hk⟩ := hp.nat
  rw [Int.toNat_natCast, Int.toNat_natCast]
  obtain ⟨b, o, rfl, hcx, hnc, _⟩ := Ss.read HS.out.1 i hi
  rw [← lineAt_get hi] at hcx
  have hsz := HS.out.2.2.1 (lineAt ls i) (by rw [lineAt_get hi]; exact List.getElem_mem hi)
  obtain ⟨N, hN⟩ : ∃ N, N = tn - 1 := ⟨_, rfl⟩
  rw [htl, ← hN]
  have e1 : IntKind.i64.wrap ((tn : Int) - 1) = (N : Int) := by rw [IntKind.wrap_i64]; omega
  have e2 : IntKind.i64.wrap ((i : Int) + (N : Int)) = ((i + N : Nat) : Int) := by rw [IntKind.wrap_i64]; omega
  have e3 : (i : Int) < (n : Int) := by omega
  have e4 : (N : Int) < (tn : Int) := by omega
  have e5 : (0 : Int) < (tn : Int) := by omega
  have e6 : ((tn : Int) == 0) = false := by rw [beq_eq_false_iff_ne]; omega
  have hNt : N < tn := by omega
  have t0z : (lineAt tx 0).size ≤ 140737488355328 := HS.out.2.2.2 _ (by rw [lineAt_get (by omega)]; exact List.getElem_mem _)
  have tNz : (lineAt (w1L (lineAt ls i) k tx) N).size ≤ 281474976710656 := by
    rw [lineAt_get (by rw [w1L_length]; omega)]
    unfold w1L
    rw [List.getElem_set]
    split
    · rw [ByteArray.size_append, ByteArray.size_extract]
      omega
    · have := HS.out.2.2.2 _ (List.getElem_mem (show N < tx.length by omega))
      omega
  obtain ⟨L1, hL1⟩ : ∃ L1, L1 = w1L (lineAt ls i) k tx := ⟨_, rfl⟩
  obtain ⟨t1, ht1⟩ : ∃ t1, t1 = lineAt L1 N := ⟨_, rfl⟩
  have hL2 : w2L (lineAt ls i) k tx = L1.set N (t1 ++ (lineAt ls i).extract k (lineAt ls i).size) := by
    unfold w2L
    rw [← hL1, htl, ← hN, ← ht1]
  rw [hL2]
  have hL1' := hL1
  unfold w1L at hL1'
  rw [← hL1, ← ht1] at tNz
  rw [← hL1, ← ht1]
  have hll : L1.length = tn := by rw [hL1, w1L_length]; exact htl
  obtain ⟨st, hst⟩ : ∃ st, st = lineAt ls i := ⟨_, rfl⟩
  rw [← hst] at hcx hsz hk hL1'
  rw [← hst]
  have HT := Lib.hid (And.intro hL1' (And.intro ht1 (And.intro hll hN)))
  clear hL1 hL1' ht1 hL2 hN hst hp HW hll
  obtain ⟨t0, ht0⟩ : ∃ t0, t0 = lineAt tx 0 := ⟨_, rfl⟩
  rw [← ht0] at HT t0z
  have HT0 := Lib.hid ht0
  clear ht0
  go_enter Try.func13, Try.ntmps13
  go_wp2_with fail
  rw [← H.out.1]
  refine hin.mono ?_
  rintro e w1 ⟨rfl, hb1⟩
  clear hin
  have hq1 := H.out.2.on hb1
  have p0 := hq1.pos.c0
  have p1 := hq1.pos.c1
  have hcx1 := cell_later (below_on H.out.2.below hb1) hcx
  have HQ1 := Lib.hid hq1
  clear hb1 hq1 hcx
  have hcl := clone_own ta tn tc tx w1 (SrcV.below HS.out.2.1 HQ1.out.below) htn
  go_wp2_with fail
  refine hcl.mono ?_
  rintro e w2 ⟨g0, cc, rfl, hown, hb2⟩
  obtain ⟨g, rfl, hg⟩ := own_some hown h0
  have hq2 := HQ1.out.on hb2
  have hown := own_base hown (HQ1.out.size)
  have hg3 : w.heap.size + 3 ≤ g := Nat.le_trans HQ1.out.size hg
  clear hcl p0 p1 hcx1
  have p0 := hq2.pos.c0
  have p1 := hq2.pos.c1
  have HQ2 := Lib.hid (And.intro hq2 hown)
  have c0 := own_at hown h0
  rw [← HT0.out] at c0
  clear hown hb2 hq2 hg HQ1
  go_wp2
  have F_0 := fun (C : World → Prop) (hC : Grows w2 C) (z : In C) => hC.cell p1 z
  have F_1 := fun (C : World → Prop) (hC : Grows w2 C) (z : In C) => hC.cell c0 z
  refine wp_region_seg [0, 1, 2, 3, 4, 5, 6, 7, 8, 9] [(10, 3)] (by kernel_rfl) (by kernel_rfl) 72 rfl (by kernel_rfl) ?_
  simp only [List.map_cons, List.map_nil, opOf_succ, opOf_zero]
  apply Exists.intro
  refine ⟨fun C hC => ?_, ?_⟩
  · haveI hI := hC.one
    have f_0 := F_0 C hC
    have f_1 := F_1 C hC
    repeat (go_big_quiet_step (fail))
    exact wpQuiet_nil rfl
  clear F_0 F_1
  refine wpPath_store rfl fun A hA => ?_
  have hq3 := HQ2.out.1.on hA
  have own3 := ownsRow_fr HQ2.out.2 (Fr.ofBelow hA (fun _ => False)) (fun _ _ h => h)
  have x0 := own_at own3 h0
  have z := own_z own3
  refine ⟨A.setCell ⟨g, 0, none⟩ (.string (st.extract 0 k ++ t0)), rfl, by simp only [opOf_succ, opOf_zero]; go_simp, ?_⟩
  simp only [opOf_succ, opOf_zero, Act.put, List.setIfInBounds_toArray, List.set_cons_zero, List.set_cons_succ]
  refine wpPath_end fun A2 hA2 => ?_
  have hq4 := (hq3.put (k := 0) (v := .string (st.extract 0 k ++ t0)) hg3).on hA2
  have own4 := ownsRow_fr (own_map (s := st.extract 0 k ++ t0) own3 h0) (Fr.ofBelow hA2 (fun _ => False)) (fun _ _ h => h)
  rw [← HT.out.1] at own4
  have HQ4 := Lib.hid (And.intro hq4 own4)
  clear p0 p1 c0 hq3 own3 x0 z hA hA2 HQ2
  have p0 := hq4.pos.c0
  have p1 := hq4.pos.c1
  have c1 := own_at own4 hNt
  rw [← HT.out.2.1] at c1
  clear hq4 own4
  go_wp2
  have F_0 := fun (C : World → Prop) (hC : Grows A2 C) (z : In C) => hC.cell p0 z
  have F_1 := fun (C : World → Prop) (hC : Grows A2 C) (z : In C) => hC.cell c1 z
  refine wp_region_seg [0, 1, 2, 3, 4, 5, 6, 7, 8, 9] [(10, 1), (11, 3)] (by kernel_rfl) (by kernel_rfl) 72 rfl (by kernel_rfl) ?_
  simp only [List.map_cons, List.map_nil, opOf_succ, opOf_zero]
  apply Exists.intro
  refine ⟨fun C hC => ?_, ?_⟩
  · haveI hI := hC.one
    have f_0 := F_0 C hC
    have f_1 := F_1 C hC
    repeat (go_big_quiet_step (fail))
    exact wpQuiet_nil rfl
  clear F_0 F_1
  refine wpPath_make rfl fun u hu => ?_
  refine ⟨.pointer (some ⟨u.heap.size, 0, none⟩), u.alloc (.cells #[.int .i64 0, .int .i64 0] 24), rfl, by simp only [opOf_succ, opOf_zero]; kernel_rfl, one_below _ _, ?_⟩
  simp only [opOf_succ, opOf_zero, Act.put, List.setIfInBounds_toArray, List.set_cons_zero, List.set_cons_succ]
  have hn5 : PosAt (u.alloc (.cells #[.int .i64 0, .int .i64 0] 24)) u.heap.size 0 0 := PosAt.new u 0 0
  obtain ⟨v, hv⟩ : ∃ v, v = u.alloc (.cells #[.int .i64 0, .int .i64 0] 24) := ⟨_, rfl⟩
  have hbv : Below u.heap.size u v := by rw [hv]; exact one_below _ _
  obtain ⟨g5, hg5⟩ : ∃ g5, g5 = u.heap.size := ⟨_, rfl⟩
  rw [← hv, ← hg5] at hn5
  rw [← hv, ← hg5]
  have hgg : A2.heap.size ≤ g5 := by rw [hg5]; exact hu.size
  have hbv := below_on hu hbv
  clear hv hg5 hu
  refine wpPath_store rfl fun u hu => ?_
  have hn6 := hn5.below hu hn5.lt
  have m0 := hn6.c0
  have m1 := hn6.c1
  have z := pos_z hn6
  refine ⟨(u.setCell ⟨g5, 0, none⟩ (.int .i64 ((i + N : Nat) : Int))).setCell ⟨g5, 1, none⟩ (.int .i64 (t1.size : Int)), rfl, by simp only [opOf_succ, opOf_zero]; go_simp, ?_⟩
  simp only [opOf_succ, opOf_zero, Act.put, List.setIfInBounds_toArray, List.set_cons_zero, List.set_cons_succ]
  refine wpPath_end fun A3 hA3 => ?_
  have hb5 : Below A2.heap.size A2 A3 := (putP_below (below_on hbv hu) hgg ((i + N : Nat) : Int) (t1.size : Int)).trans (hA3.mono (by have := (below_on hbv hu).size; simpa [World.setCell] using this))
  have hp5 : PosAt A3 g5 ((i + N : Nat) : Int) (t1.size : Int) := (putP_at hn6 ((i + N : Nat) : Int) (t1.size : Int)).below hA3 (by have := hn6.lt; simpa [World.setCell] using this)
  have hq5 := HQ4.out.1.on hb5
  have own5 := ownsRow_fr HQ4.out.2 (Fr.ofBelow hb5 (fun _ => False)) (fun _ _ h => h)
  have hge : ¬ g5 = g := by have := own_lt HQ4.out.2; omega
  have hg5 : w.heap.size + 3 ≤ g5 := Nat.le_trans HQ4.out.1.size hgg
  have HQ5 := Lib.hid (And.intro hq5 (And.intro own5 hp5))
  clear p0 p1 c1 hn5 hn6 m0 m1 z hA3 hu hbv hb5 HQ4 hgg
  have p0 := hq5.pos.c0
  have p1 := hq5.pos.c1
  have c1 := own_at own5 hNt
  rw [← HT.out.2.1] at c1
  clear hq5 own5 hp5
  go_wp2
  have F_0 := fun (C : World → Prop) (hC : Grows A3 C) (z : In C) => hC.cell p1 z
  have F_1 := fun (C : World → Prop) (hC : Grows A3 C) (z : In C) => hC.cell c1 z
  refine wp_region_seg [0, 1, 2, 3, 4, 5, 6, 7, 8, 9] [(10, 3)] (by kernel_rfl) (by kernel_rfl) 72 rfl (by kernel_rfl) ?_
  simp only [List.map_cons, List.map_nil, opOf_succ, opOf_zero]
  apply Exists.intro
  refine ⟨fun C hC => ?_, ?_⟩
  · haveI hI := hC.one
    have f_0 := F_0 C hC
    have f_1 := F_1 C hC
    repeat (go_big_quiet_step (fail))
    exact wpQuiet_nil rfl
  clear F_0 F_1
  refine wpPath_store rfl fun A hA => ?_
  have hq6 := HQ5.out.1.on hA
  have own6 := ownsRow_fr HQ5.out.2.1 (Fr.ofBelow hA (fun _ => False)) (fun _ _ h => h)
  have hp6 := HQ5.out.2.2.below hA HQ5.out.2.2.lt
  have x0 := own_at own6 hNt
  have z := own_z own6
  refine ⟨A.setCell ⟨g, N, none⟩ (.string (t1 ++ st.extract k st.size)), rfl, by simp only [opOf_succ, opOf_zero]; go_simp, ?_⟩
  simp only [opOf_succ, opOf_zero, Act.put, List.setIfInBounds_toArray, List.set_cons_zero, List.set_cons_succ]
  refine wpPath_end fun A4 hA4 => ?_
  have hq7 := (hq6.put (k := N) (v := .string (t1 ++ st.extract k st.size)) hg3).on hA4
  have own7 := ownsRow_fr (own_map (s := t1 ++ st.extract k st.size) own6 hNt) (Fr.ofBelow hA4 (fun _ => False)) (fun _ _ h => h)
  have hp7 := (PosAt.other (k := N) (v := .string (t1 ++ st.extract k st.size)) hp6 hge).below hA4 (by have := hp6.lt; simpa [World.setCell] using this)
  have HQ7 := Lib.hid (And.intro hq7 (And.intro hp7 (show Ss A4 (some ⟨g, 0, none⟩) tn cc (L1.set N (t1 ++ st.extract k st.size)) from SrcV.ofOwn own7 (one_cells _))))
  have hsl := Lib.hid (SrcV.below HS.out.1 hq7.below)
  clear p0 p1 c1 hq6 own6 hp6 x0 z hA hA4 HQ5 own7
  have p0 := hq7.pos.c0
  have q0 := hp7.c0
  have q1 := hp7.c1
  clear hq7 hp7
  go_wp2
  have F_0 := fun (C : World → Prop) (hC : Vs.Grows (fun j => j = w.heap.size + 1) A4 C) (z : Vs.In C) => hC.cell p0 (by simp only; omega) z
  have F_1 := fun (C : World → Prop) (hC : Vs.Grows (fun j => j = w.heap.size + 1) A4 C) (z : Vs.In C) => hC.cell q0 (by simp only; omega) z
  have F_2 := fun (C : World → Prop) (hC : Vs.Grows (fun j => j = w.heap.size + 1) A4 C) (z : Vs.In C) => hC.cell q1 (by simp only; omega) z
  refine Vs.wp_region_seg (S := fun j => j = w.heap.size + 1) [0, 1, 2, 3, 4, 5, 7] [(6, 1), (8, 1), (9, 3), (10, 2)] (by kernel_rfl) (by kernel_rfl) 72 rfl (by kernel_rfl) ?_
  simp only [List.map_cons, List.map_nil, Vs.opOf_succ, Vs.opOf_zero]
  apply Exists.intro
  refine ⟨fun C hC => ?_, ?_⟩
  · haveI hI := hC.one
    have f_0 := F_0 C hC
    have f_1 := F_1 C hC
    have f_2 := F_2 C hC
    repeat (go_big_quiet_step (fail))
    exact wpQuiet_nil rfl
  clear F_0 F_1 F_2
  refine Vs.wpPath_call (f := 33) (args := #[.slice (some ⟨b, o, none⟩) n c', .int .i64 i, .int .i64 i, .slice (some ⟨g, 0, none⟩) tn cc]) rfl rfl (fun W => by simp only [Vs.opOf_succ, Vs.opOf_zero]; go_simp) ?_
  intro A5 hA5
  refine (replaced_any _ n c' ls i i _ tn cc _ A5 (SrcV.below hsl.out hA5) (SrcV.below HQ7.out.2.2 hA5) (Nat.le_refl _) (by omega) hn).mono ?_
  rintro e A6 ⟨⟨f, ⟨oa, on, oc⟩, na, nn, nc⟩, rfl, hcw, hA6⟩
  refine ⟨_, rfl, Fr.ofBelow hA6 _, ?_⟩
  simp only [cv, sv, Vs.opOf_succ, Vs.opOf_zero, Act.put, List.setIfInBounds_toArray, List.set_cons_zero, List.set_cons_succ]
  have hq8 := HQ7.out.1.on (below_on hA5 hA6)
  clear hA5 hA6 p0 q0 q1
  refine Vs.wpPath_put rfl fun u hu => ?_
  have hq9 := hq8.on hu
  have hcw9 := hcw.below hu
  have m0 := hq9.ch.c0
  have m1 : u.cell? ⟨w.heap.size + 1, 1, none⟩ = some (.slice none 0 0) := hq9.ch.c1
  have m2 : u.cell? ⟨w.heap.size + 1, 2, none⟩ = some (.slice none 0 0) := hq9.ch.c2
  have z := hq9.ch.z
  refine ⟨((u.setCell ⟨w.heap.size + 1, 0, none⟩ (.int .i64 f)).setCell ⟨w.heap.size + 1, 1, none⟩ (.slice oa on oc)).setCell ⟨w.heap.size + 1, 2, none⟩ (.slice na nn nc), rfl, by simp only [Vs.opOf_succ, Vs.opOf_zero]; go_simp, putC_fr u (w.heap.size + 1) (f, (oa, on, oc), (na, nn, nc)), ?_⟩
  simp only [Vs.opOf_succ, Vs.opOf_zero, Act.put, List.setIfInBounds_toArray, List.set_cons_zero, List.set_cons_succ]
  have hcY := hcw9.putC (z := (f, (oa, on, oc), (na, nn, nc))) hq9.ch
  have hc1 := hq9.ch.set (f, (oa, on, oc), (na, nn, nc))
  have hp1 := pos_fr hq9.ps (putC_fr u (w.heap.size + 1) (f, (oa, on, oc), (na, nn, nc))) (by omega)
  have hbY := putC_below hq9.below (show w.heap.size ≤ w.heap.size + 1 by omega) (f, (oa, on, oc), (na, nn, nc))
  obtain ⟨Y, hY⟩ : ∃ Y, Y = ((u.setCell ⟨w.heap.size + 1, 0, none⟩ (.int .i64 f)).setCell ⟨w.heap.size + 1, 1, none⟩ (.slice oa on oc)).setCell ⟨w.heap.size + 1, 2, none⟩ (.slice na nn nc) := ⟨_, rfl⟩
  rw [show putC u (w.heap.size + 1) (f, (oa, on, oc), (na, nn, nc)) = Y from hY.symm] at hcY hp1 hbY
  rw [show ((u.setCell ⟨w.heap.size + 1, 0, none⟩ (.int .i64 f)).setCell ⟨w.heap.size + 1, 1, none⟩ (sv (oa, on, oc))).setCell ⟨w.heap.size + 1, 2, none⟩ (sv (na, nn, nc)) = Y from hY.symm] at hc1
  rw [← hY]
  clear hY m0 m1 m2 z hq9 hcw9 hq8 hcw hu
  refine Vs.wpPath_store rfl fun u hu => ?_
  have hp2 := hp1.below hu hp1.lt
  have m0 := hp2.c0
  have m1 := hp2.c1
  have z := pos_z hp2
  refine ⟨(u.setCell ⟨w.heap.size + 2, 0, none⟩ (.int .i64 ((i + N : Nat) : Int))).setCell ⟨w.heap.size + 2, 1, none⟩ (.int .i64 (t1.size : Int)), rfl, by simp only [Vs.opOf_succ, Vs.opOf_zero]; go_simp, ?_⟩
  simp only [Vs.opOf_succ, Vs.opOf_zero, Act.put, List.setIfInBounds_toArray, List.set_cons_zero, List.set_cons_succ]
  refine Vs.wpPath_free (v := .bool true) rfl rfl (fun W => by simp only [Vs.opOf_succ, Vs.opOf_zero]; go_simp) ?_
  simp only [Vs.opOf_succ, Vs.opOf_zero, Act.put, List.setIfInBounds_toArray, List.set_cons_zero, List.set_cons_succ]
  refine Vs.wpPath_end fun u3 hu3 => ?_
  have hz3 : u.heap.size = (putP u (w.heap.size + 2) ((i + N : Nat) : Int) (t1.size : Int)).heap.size := by simp [putP, World.setCell]
  have hu4 : Below (putP u (w.heap.size + 2) ((i + N : Nat) : Int) (t1.size : Int)).heap.size (putP u (w.heap.size + 2) ((i + N : Nat) : Int) (t1.size : Int)) u3 := hu3
  have HE : Hid (ChAt u3 (w.heap.size + 1) (f, (oa, on, oc), (na, nn, nc)) ∧ PosAt u3 (w.heap.size + 2) ((i + N : Nat) : Int) (t1.size : Int) ∧ CW u3 (f, (oa, on, oc), (na, nn, nc)) (i, cutL ls i i, L1.set N (t1 ++ st.extract k st.size)) ∧ Below w.heap.size w u3) := by
    have x1 := (hc1.below hu hc1.lt).fr (putP_fr u (w.heap.size + 2) ((i + N : Nat) : Int) (t1.size : Int)) (by omega)
    have x2 := putP_at hp2 ((i + N : Nat) : Int) (t1.size : Int)
    exact ⟨x1.below hu4 x1.lt, x2.below hu4 x2.lt, ((hcY.below hu).putP hp2).below hu4, below_on (putP_below (below_on hbY hu) (by omega) _ _) hu4⟩
  clear hc1 hp1 hcY hbY hp2 m0 m1 z hu hu3 hz3 hu4
  go_wp2
  exact ret_cpb (g := w.heap.size + 1) (g2 := w.heap.size + 2) rfl rfl rfl rfl rfl HE.out.1 HE.out.2.1 ⟨_, rfl, HE.out.2.2.1, HE.out.2.2.2⟩

set_option maxHeartbeats 4000000 in
theorem write19_any (a : Option Addr) (n c' : Nat) (ls : List ByteArray) (l c : Int) (ta : Option Addr) (tn tc : Nat) (tx : List ByteArray) (w : World) (h : Ss w a n c' ls) (hs : ∀ s ∈ ls, s.size ≤ 140737488355328) (ht : Ss w ta tn tc tx) (hts : ∀ s ∈ tx, s.size ≤ 140737488355328) (hn : n ≤ 1000000) (htn : tn ≤ 1000000) :
    Calls Try.prog 14 #[.slice a n c', .agg #[.int .i64 l, .int .i64 c], .slice ta tn tc] w fun e w' => WOut w (wrt ls l c tx) e w' := by
  obtain ⟨i0, hi0, hz0, hz1, hz2⟩ := info_parts infoS
  have hlen := h.length
  have htl := ht.length
  obtain ⟨X, hX⟩ : ∃ X, X = ((w.alloc (.cells #[.int .i64 l, .int .i64 c] 24)).alloc (.cells #[.int .i64 0, .slice none 0 0, .slice none 0 0] TC)).alloc (.cells #[.int .i64 0, .int .i64 0] 24) := ⟨_, rfl⟩
  have hq : Wq w X l c := by rw [hX]; exact Wq.new w l c
  have hin := place5_any a n c' ls l c X (SrcV.below h hq.below)
  have H := Lib.hid (And.intro (show X = ((w.alloc (.cells #[.int .i64 l, .int .i64 c] 24)).alloc (.cells #[.int .i64 0, .slice none 0 0, .slice none 0 0] 31)).alloc (.cells #[.int .i64 0, .int .i64 0] 24) from hX) hq)
  have HS := Lib.hid (And.intro h (And.intro ht (And.intro hs hts)))
  clear hX hq h ht hs hts
  by_cases hp : Plc ls l c
  rotate_left
  · rw [decide_eq_false hp] at hin
    rw [show wrt ls l c tx = ((0, [], []), (0, 0), false) from if_neg fun h => hp h.1]
    clear hp
    go_enter Try.func14, Try.ntmps14
    go_wp2_with fail
    rw [← H.out.1]
    refine hin.mono ?_
    rintro e w1 ⟨rfl, hb1⟩
    have hq1 := H.out.2.on hb1
    have m0 := hq1.ch.c0
    have m1 : w1.cell? ⟨w.heap.size + 1, 1, none⟩ = some (.slice none 0 0) := hq1.ch.c1
    have m2 : w1.cell? ⟨w.heap.size + 1, 2, none⟩ = some (.slice none 0 0) := hq1.ch.c2
    have z := hq1.ch.z
    have n0 := hq1.ps.c0
    have n1 := hq1.ps.c1
    have zz := pos_z hq1.ps
    have y0 := pos_fr hq1.ps (putC_fr w1 (w.heap.size + 1) (0, (none, 0, 0), (none, 0, 0))) (by omega)
    have n2 : (((w1.setCell ⟨w.heap.size + 1, 0, none⟩ (.int .i64 0)).setCell ⟨w.heap.size + 1, 1, none⟩ (.slice none 0 0)).setCell ⟨w.heap.size + 1, 2, none⟩ (.slice none 0 0)).cell? ⟨w.heap.size + 2, 0, none⟩ = some (.int .i64 0) := y0.c0
    have n3 : (((w1.setCell ⟨w.heap.size + 1, 0, none⟩ (.int .i64 0)).setCell ⟨w.heap.size + 1, 1, none⟩ (.slice none 0 0)).setCell ⟨w.heap.size + 1, 2, none⟩ (.slice none 0 0)).cell? ⟨w.heap.size + 2, 1, none⟩ = some (.int .i64 0) := y0.c1
    have z2 : ∀ k, (((w1.setCell ⟨w.heap.size + 1, 0, none⟩ (.int .i64 0)).setCell ⟨w.heap.size + 1, 1, none⟩ (.slice none 0 0)).setCell ⟨w.heap.size + 1, 2, none⟩ (.slice none 0 0)).frozen? ⟨w.heap.size + 2, k, none⟩ = false := pos_z y0
    have HF : Hid (ChAt (putP (putC w1 (w.heap.size + 1) (0, (none, 0, 0), (none, 0, 0))) (w.heap.size + 2) 0 0) (w.heap.size + 1) (0, (none, 0, 0), (none, 0, 0)) ∧ PosAt (putP (putC w1 (w.heap.size + 1) (0, (none, 0, 0), (none, 0, 0))) (w.heap.size + 2) 0 0) (w.heap.size + 2) 0 0 ∧ Below w.heap.size w (putP (putC w1 (w.heap.size + 1) (0, (none, 0, 0), (none, 0, 0))) (w.heap.size + 2) 0 0)) :=
      ⟨(hq1.ch.set _).fr (putP_fr _ _ _ _) (by omega), putP_at y0 0 0, putP_below (putC_below hq1.below (by omega) _) (by omega) 0 0⟩
    clear hin hb1 hq1 y0
    go_wp2
    exact ret_cpb (g := w.heap.size + 1) (g2 := w.heap.size + 2) rfl rfl rfl rfl rfl HF.out.1 HF.out.2.1 ⟨_, rfl, CW.zero _, HF.out.2.2⟩
  rw [decide_eq_true hp] at hin
  by_cases h0 : 0 < tn
  rotate_left
  · obtain rfl : tn = 0 := by omega
    rw [show wrt ls l c tx = ((0, [], []), (0, 0), false) from if_neg fun h => by have := h.2; omega]
    clear hp
    go_enter Try.func14, Try.ntmps14
    go_wp2_with fail
    rw [← H.out.1]
    refine hin.mono ?_
    rintro e w1 ⟨rfl, hb1⟩
    have hq1 := H.out.2.on hb1
    have m0 := hq1.ch.c0
    have m1 : w1.cell? ⟨w.heap.size + 1, 1, none⟩ = some (.slice none 0 0) := hq1.ch.c1
    have m2 : w1.cell? ⟨w.heap.size + 1, 2, none⟩ = some (.slice none 0 0) := hq1.ch.c2
    have z := hq1.ch.z
    have n0 := hq1.ps.c0
    have n1 := hq1.ps.c1
    have zz := pos_z hq1.ps
    have y0 := pos_fr hq1.ps (putC_fr w1 (w.heap.size + 1) (0, (none, 0, 0), (none, 0, 0))) (by omega)
    have n2 : (((w1.setCell ⟨w.heap.size + 1, 0, none⟩ (.int .i64 0)).setCell ⟨w.heap.size + 1, 1, none⟩ (.slice none 0 0)).setCell ⟨w.heap.size + 1, 2, none⟩ (.slice none 0 0)).cell? ⟨w.heap.size + 2, 0, none⟩ = some (.int .i64 0) := y0.c0
    have n3 : (((w1.setCell ⟨w.heap.size + 1, 0, none⟩ (.int .i64 0)).setCell ⟨w.heap.size + 1, 1, none⟩ (.slice none 0 0)).setCell ⟨w.heap.size + 1, 2, none⟩ (.slice none 0 0)).cell? ⟨w.heap.size + 2, 1, none⟩ = some (.int .i64 0) := y0.c1
    have z2 : ∀ k, (((w1.setCell ⟨w.heap.size + 1, 0, none⟩ (.int .i64 0)).setCell ⟨w.heap.size + 1, 1, none⟩ (.slice none 0 0)).setCell ⟨w.heap.size + 1, 2, none⟩ (.slice none 0 0)).frozen? ⟨w.heap.size + 2, k, none⟩ = false := pos_z y0
    have HF : Hid (ChAt (putP (putC w1 (w.heap.size + 1) (0, (none, 0, 0), (none, 0, 0))) (w.heap.size + 2) 0 0) (w.heap.size + 1) (0, (none, 0, 0), (none, 0, 0)) ∧ PosAt (putP (putC w1 (w.heap.size + 1) (0, (none, 0, 0), (none, 0, 0))) (w.heap.size + 2) 0 0) (w.heap.size + 2) 0 0 ∧ Below w.heap.size w (putP (putC w1 (w.heap.size + 1) (0, (none, 0, 0), (none, 0, 0))) (w.heap.size + 2) 0 0)) :=
      ⟨(hq1.ch.set _).fr (putP_fr _ _ _ _) (by omega), putP_at y0 0 0, putP_below (putC_below hq1.below (by omega) _) (by omega) 0 0⟩
    clear hin hb1 hq1 y0
    go_wp2
    exact ret_cpb (g := w.heap.size + 1) (g2 := w.heap.size + 2) rfl rfl rfl rfl rfl HF.out.1 HF.out.2.1 ⟨_, rfl, CW.zero _, HF.out.2.2⟩
  have HW : Hid (wrt ls l c tx = ((l, cutL ls l.toNat l.toNat, w2L (lineAt ls l.toNat) c.toNat tx), (l + ((tx.length - 1 : Nat) : Int), ((lineAt (w1L (lineAt ls l.toNat) c.toNat tx) (tx.length - 1)).size : Int)), true)) := if_pos ⟨hp, by omega⟩
  rw [HW.out]
  obtain ⟨i, k, rfl, rfl, hi, hk⟩ := hp.nat
  rw [Int.toNat_natCast, Int.toNat_natCast]
  obtain ⟨b, o, rfl, hcx, hnc, _⟩ := Ss.read HS.out.1 i hi
  rw [← lineAt_get hi] at hcx
  have hsz := HS.out.2.2.1 (lineAt ls i) (by rw [lineAt_get hi]; exact List.getElem_mem hi)
  obtain ⟨N, hN⟩ : ∃ N, N = tn - 1 := ⟨_, rfl⟩
  rw [htl, ← hN]
  have e1 : IntKind.i64.wrap ((tn : Int) - 1) = (N : Int) := by rw [IntKind.wrap_i64]; omega
  have e2 : IntKind.i64.wrap ((i : Int) + (N : Int)) = ((i + N : Nat) : Int) := by rw [IntKind.wrap_i64]; omega
  have e3 : (i : Int) < (n : Int) := by omega
  have e4 : (N : Int) < (tn : Int) := by omega
  have e5 : (0 : Int) < (tn : Int) := by omega
  have e6 : ((tn : Int) == 0) = false := by rw [beq_eq_false_iff_ne]; omega
  have hNt : N < tn := by omega
  have t0z : (lineAt tx 0).size ≤ 140737488355328 := HS.out.2.2.2 _ (by rw [lineAt_get (by omega)]; exact List.getElem_mem _)
  have tNz : (lineAt (w1L (lineAt ls i) k tx) N).size ≤ 281474976710656 := by
    rw [lineAt_get (by rw [w1L_length]; omega)]
    unfold w1L
    rw [List.getElem_set]
    split
    · rw [ByteArray.size_append, ByteArray.size_extract]
      omega
    · have := HS.out.2.2.2 _ (List.getElem_mem (show N < tx.length by omega))
      omega
  obtain ⟨L1, hL1⟩ : ∃ L1, L1 = w1L (lineAt ls i) k tx := ⟨_, rfl⟩
  obtain ⟨t1, ht1⟩ : ∃ t1, t1 = lineAt L1 N := ⟨_, rfl⟩
  have hL2 : w2L (lineAt ls i) k tx = L1.set N (t1 ++ (lineAt ls i).extract k (lineAt ls i).size) := by
    unfold w2L
    rw [← hL1, htl, ← hN, ← ht1]
  rw [hL2]
  have hL1' := hL1
  unfold w1L at hL1'
  rw [← hL1, ← ht1] at tNz
  rw [← hL1, ← ht1]
  have hll : L1.length = tn := by rw [hL1, w1L_length]; exact htl
  obtain ⟨st, hst⟩ : ∃ st, st = lineAt ls i := ⟨_, rfl⟩
  rw [← hst] at hcx hsz hk hL1'
  rw [← hst]
  have HT := Lib.hid (And.intro hL1' (And.intro ht1 (And.intro hll hN)))
  clear hL1 hL1' ht1 hL2 hN hst hp HW hll
  obtain ⟨t0, ht0⟩ : ∃ t0, t0 = lineAt tx 0 := ⟨_, rfl⟩
  rw [← ht0] at HT t0z
  have HT0 := Lib.hid ht0
  clear ht0
  go_enter Try.func14, Try.ntmps14
  go_wp2_with fail
  rw [← H.out.1]
  refine hin.mono ?_
  rintro e w1 ⟨rfl, hb1⟩
  clear hin
  have hq1 := H.out.2.on hb1
  have p0 := hq1.pos.c0
  have p1 := hq1.pos.c1
  have hcx1 := cell_later (below_on H.out.2.below hb1) hcx
  have HQ1 := Lib.hid hq1
  clear hb1 hq1 hcx
  have FACT : ∀ (g0 : Option Addr) (cc : Nat) (w2 : World), w2.ownsRow w1.heap.size ES 1 (.slice g0 (0 + tn) cc) (0 + tn) ([] ++ tx.map .string) → w1.grownBy w2 (Value.slice none 0 0).ownBlock →
      ∃ g, g0 = some ⟨g, 0, none⟩ ∧ w.heap.size + 3 ≤ g ∧ w2.cell? ⟨w.heap.size, 0, none⟩ = some (.int .i64 i) ∧ w2.cell? ⟨w.heap.size, 1, none⟩ = some (.int .i64 k) ∧ w2.cell? ⟨g, 0, none⟩ = some (.string t0) ∧
      Hid (Wq w w2 i k ∧ w2.ownsRow (w.heap.size + 3) ES 1 (.slice (some ⟨g, 0, none⟩) tn cc) tn (tx.map .string)) := by
    intro g0 cc w2 hown hgr
    have hb2 : Below w1.heap.size w1 w2 := (Below.refl _ w1).grown hgr (Nat.le_refl _) (fun k e => by simp [Value.ownBlock] at e)
    simp only [Nat.zero_add, List.nil_append] at hown
    obtain ⟨g, rfl, hg⟩ := own_some hown h0
    have hq2 := HQ1.out.on hb2
    have hown := own_base hown (HQ1.out.size)
    have hg3 : w.heap.size + 3 ≤ g := Nat.le_trans HQ1.out.size hg
    refine ⟨g, rfl, hg3, hq2.pos.c0, hq2.pos.c1, ?_, hq2, hown⟩
    rw [HT0.out]
    exact own_at hown h0
  have hsrc := Lib.hid (SrcV.below HS.out.2.1 HQ1.out.below)
  have hown0 := Lib.hid (World.ownsRow_nil w1 w1.heap.size ES 1)
  go_wp2_with (at_builtin; go_must (refine append_srcv _ rfl _ _ 22 rfl w1.heap.size ES i0 (.string ⟨#[]⟩) 1 16 underS hi0 hz0 hz1 hz2 rfl (by decide) _ 0 [] rfl hown0.out _ tn (tx.map .string) rfl hsrc.out (by simp only [maxLen]; omega) (by omega) (Nat.le_refl _) ?_); intro g0 cc w2 hown hgr hnr; obtain ⟨g, rfl, hg3, x0, x1, c0, HQ2⟩ := FACT g0 cc w2 hown hgr; clear hown hgr hnr FACT p0 p1 hcx1; rename w2.cell? ⟨w.heap.size, 0, none⟩ = _ => p0; rename w2.cell? ⟨w.heap.size, 1, none⟩ = _ => p1; rw [Nat.zero_add])
  have F_0 := fun (C : World → Prop) (hC : Grows w2 C) (z : In C) => hC.cell p1 z
  have F_1 := fun (C : World → Prop) (hC : Grows w2 C) (z : In C) => hC.cell c0 z
  refine wp_region_seg [0, 1, 2, 3, 4, 5, 6, 7, 8, 9] [(10, 3)] (by kernel_rfl) (by kernel_rfl) 81 rfl (by kernel_rfl) ?_
  simp only [List.map_cons, List.map_nil, opOf_succ, opOf_zero]
  apply Exists.intro
  refine ⟨fun C hC => ?_, ?_⟩
  · haveI hI := hC.one
    have f_0 := F_0 C hC
    have f_1 := F_1 C hC
    repeat (go_big_quiet_step (fail))
    exact wpQuiet_nil rfl
  clear F_0 F_1
  refine wpPath_store rfl fun A hA => ?_
  have hq3 := HQ2.out.1.on hA
  have own3 := ownsRow_fr HQ2.out.2 (Fr.ofBelow hA (fun _ => False)) (fun _ _ h => h)
  have x0 := own_at own3 h0
  have z := own_z own3
  refine ⟨A.setCell ⟨g, 0, none⟩ (.string (st.extract 0 k ++ t0)), rfl, by simp only [opOf_succ, opOf_zero]; go_simp, ?_⟩
  simp only [opOf_succ, opOf_zero, Act.put, List.setIfInBounds_toArray, List.set_cons_zero, List.set_cons_succ]
  refine wpPath_end fun A2 hA2 => ?_
  have hq4 := (hq3.put (k := 0) (v := .string (st.extract 0 k ++ t0)) hg3).on hA2
  have own4 := ownsRow_fr (own_map (s := st.extract 0 k ++ t0) own3 h0) (Fr.ofBelow hA2 (fun _ => False)) (fun _ _ h => h)
  rw [← HT.out.1] at own4
  have HQ4 := Lib.hid (And.intro hq4 own4)
  clear p0 p1 c0 hq3 own3 x0 z hA hA2 HQ2
  have p0 := hq4.pos.c0
  have p1 := hq4.pos.c1
  have c1 := own_at own4 hNt
  rw [← HT.out.2.1] at c1
  clear hq4 own4
  go_wp2
  have F_0 := fun (C : World → Prop) (hC : Grows A2 C) (z : In C) => hC.cell p0 z
  have F_1 := fun (C : World → Prop) (hC : Grows A2 C) (z : In C) => hC.cell c1 z
  refine wp_region_seg [0, 1, 2, 3, 4, 5, 6, 7, 8, 9] [(10, 1), (11, 3)] (by kernel_rfl) (by kernel_rfl) 81 rfl (by kernel_rfl) ?_
  simp only [List.map_cons, List.map_nil, opOf_succ, opOf_zero]
  apply Exists.intro
  refine ⟨fun C hC => ?_, ?_⟩
  · haveI hI := hC.one
    have f_0 := F_0 C hC
    have f_1 := F_1 C hC
    repeat (go_big_quiet_step (fail))
    exact wpQuiet_nil rfl
  clear F_0 F_1
  refine wpPath_make rfl fun u hu => ?_
  refine ⟨.pointer (some ⟨u.heap.size, 0, none⟩), u.alloc (.cells #[.int .i64 0, .int .i64 0] 24), rfl, by simp only [opOf_succ, opOf_zero]; kernel_rfl, one_below _ _, ?_⟩
  simp only [opOf_succ, opOf_zero, Act.put, List.setIfInBounds_toArray, List.set_cons_zero, List.set_cons_succ]
  have hn5 : PosAt (u.alloc (.cells #[.int .i64 0, .int .i64 0] 24)) u.heap.size 0 0 := PosAt.new u 0 0
  obtain ⟨v, hv⟩ : ∃ v, v = u.alloc (.cells #[.int .i64 0, .int .i64 0] 24) := ⟨_, rfl⟩
  have hbv : Below u.heap.size u v := by rw [hv]; exact one_below _ _
  obtain ⟨g5, hg5⟩ : ∃ g5, g5 = u.heap.size := ⟨_, rfl⟩
  rw [← hv, ← hg5] at hn5
  rw [← hv, ← hg5]
  have hgg : A2.heap.size ≤ g5 := by rw [hg5]; exact hu.size
  have hbv := below_on hu hbv
  clear hv hg5 hu
  refine wpPath_store rfl fun u hu => ?_
  have hn6 := hn5.below hu hn5.lt
  have m0 := hn6.c0
  have m1 := hn6.c1
  have z := pos_z hn6
  refine ⟨(u.setCell ⟨g5, 0, none⟩ (.int .i64 ((i + N : Nat) : Int))).setCell ⟨g5, 1, none⟩ (.int .i64 (t1.size : Int)), rfl, by simp only [opOf_succ, opOf_zero]; go_simp, ?_⟩
  simp only [opOf_succ, opOf_zero, Act.put, List.setIfInBounds_toArray, List.set_cons_zero, List.set_cons_succ]
  refine wpPath_end fun A3 hA3 => ?_
  have hb5 : Below A2.heap.size A2 A3 := (putP_below (below_on hbv hu) hgg ((i + N : Nat) : Int) (t1.size : Int)).trans (hA3.mono (by have := (below_on hbv hu).size; simpa [World.setCell] using this))
  have hp5 : PosAt A3 g5 ((i + N : Nat) : Int) (t1.size : Int) := (putP_at hn6 ((i + N : Nat) : Int) (t1.size : Int)).below hA3 (by have := hn6.lt; simpa [World.setCell] using this)
  have hq5 := HQ4.out.1.on hb5
  have own5 := ownsRow_fr HQ4.out.2 (Fr.ofBelow hb5 (fun _ => False)) (fun _ _ h => h)
  have hge : ¬ g5 = g := by have := own_lt HQ4.out.2; omega
  have hg5 : w.heap.size + 3 ≤ g5 := Nat.le_trans HQ4.out.1.size hgg
  have HQ5 := Lib.hid (And.intro hq5 (And.intro own5 hp5))
  clear p0 p1 c1 hn5 hn6 m0 m1 z hA3 hu hbv hb5 HQ4 hgg
  have p0 := hq5.pos.c0
  have p1 := hq5.pos.c1
  have c1 := own_at own5 hNt
  rw [← HT.out.2.1] at c1
  clear hq5 own5 hp5
  go_wp2
  have F_0 := fun (C : World → Prop) (hC : Grows A3 C) (z : In C) => hC.cell p1 z
  have F_1 := fun (C : World → Prop) (hC : Grows A3 C) (z : In C) => hC.cell c1 z
  refine wp_region_seg [0, 1, 2, 3, 4, 5, 6, 7, 8, 9, 10, 11] [(12, 3)] (by kernel_rfl) (by kernel_rfl) 81 rfl (by kernel_rfl) ?_
  simp only [List.map_cons, List.map_nil, opOf_succ, opOf_zero]
  apply Exists.intro
  refine ⟨fun C hC => ?_, ?_⟩
  · haveI hI := hC.one
    have f_0 := F_0 C hC
    have f_1 := F_1 C hC
    repeat (go_big_quiet_step (fail))
    exact wpQuiet_nil rfl
  clear F_0 F_1
  refine wpPath_store rfl fun A hA => ?_
  have hq6 := HQ5.out.1.on hA
  have own6 := ownsRow_fr HQ5.out.2.1 (Fr.ofBelow hA (fun _ => False)) (fun _ _ h => h)
  have hp6 := HQ5.out.2.2.below hA HQ5.out.2.2.lt
  have x0 := own_at own6 hNt
  have z := own_z own6
  refine ⟨A.setCell ⟨g, N, none⟩ (.string (t1 ++ st.extract k st.size)), rfl, by simp only [opOf_succ, opOf_zero]; go_simp, ?_⟩
  simp only [opOf_succ, opOf_zero, Act.put, List.setIfInBounds_toArray, List.set_cons_zero, List.set_cons_succ]
  refine wpPath_end fun A4 hA4 => ?_
  have hq7 := (hq6.put (k := N) (v := .string (t1 ++ st.extract k st.size)) hg3).on hA4
  have own7 := ownsRow_fr (own_map (s := t1 ++ st.extract k st.size) own6 hNt) (Fr.ofBelow hA4 (fun _ => False)) (fun _ _ h => h)
  have hp7 := (PosAt.other (k := N) (v := .string (t1 ++ st.extract k st.size)) hp6 hge).below hA4 (by have := hp6.lt; simpa [World.setCell] using this)
  have HQ7 := Lib.hid (And.intro hq7 (And.intro hp7 (show Ss A4 (some ⟨g, 0, none⟩) tn cc (L1.set N (t1 ++ st.extract k st.size)) from SrcV.ofOwn own7 (one_cells _))))
  have hsl := Lib.hid (SrcV.below HS.out.1 hq7.below)
  clear p0 p1 c1 hq6 own6 hp6 x0 z hA hA4 HQ5 own7
  have p0 := hq7.pos.c0
  have q0 := hp7.c0
  have q1 := hp7.c1
  clear hq7 hp7
  have hov := over_any _ n c' ls i i _ tn cc _ A4 hsl.out HQ7.out.2.2 (Nat.le_refl _) (by omega) hn
  go_wp2_with fail
  refine hov.mono ?_
  rintro e A6 ⟨⟨f, ⟨oa, on, oc⟩, na, nn, nc⟩, rfl, hcw, hA6⟩
  have hq8 := HQ7.out.1.on hA6
  have hp8 := HQ7.out.2.1.below hA6 HQ7.out.2.1.lt
  simp only [cv, sv]
  clear hov hA6 p0 q0 q1
  go_wp2
  obtain ⟨A7, hA7⟩ : ∃ A7, A7 = A6.alloc (.cells #[.int .i64 f, .slice oa on oc, .slice na nn nc] TC) := ⟨_, rfl⟩
  rw [show A6.alloc (.cells #[.int .i64 f, .slice oa on oc, .slice na nn nc] 31) = A7 from hA7.symm]
  have hb7 : Below A6.heap.size A6 A7 := by rw [hA7]; exact one_below _ _
  have hc7 : ChAt A7 A6.heap.size (f, (oa, on, oc), (na, nn, nc)) := by rw [hA7]; exact ChAt.new A6 (f, (oa, on, oc), (na, nn, nc))
  obtain ⟨g7, hg7⟩ : ∃ g7, g7 = A6.heap.size := ⟨_, rfl⟩
  rw [← hg7] at hc7
  rw [← hg7]
  have hg8 : w.heap.size + 3 ≤ g7 := by rw [hg7]; exact hq8.size
  have hcw := hcw.below hb7
  have hq8 := hq8.on hb7
  have hp8 := hp8.below hb7 hp8.lt
  clear hA7 hb7 hg7
  have q0 := hp8.c0
  have q1 := hp8.c1
  have d0 := hc7.c0
  have d1 : A7.cell? ⟨g7, 1, none⟩ = some (.slice oa on oc) := hc7.c1
  have d2 : A7.cell? ⟨g7, 2, none⟩ = some (.slice na nn nc) := hc7.c2
  have F_0 := fun (C : World → Prop) (hC : Vs.Grows (fun j => j = w.heap.size + 1 ∨ j = w.heap.size + 2) A7 C) (z : Vs.In C) => hC.cell q0 (by simp only; omega) z
  have F_1 := fun (C : World → Prop) (hC : Vs.Grows (fun j => j = w.heap.size + 1 ∨ j = w.heap.size + 2) A7 C) (z : Vs.In C) => hC.cell q1 (by simp only; omega) z
  have F_2 := fun (C : World → Prop) (hC : Vs.Grows (fun j => j = w.heap.size + 1 ∨ j = w.heap.size + 2) A7 C) (z : Vs.In C) => hC.cell d0 (by simp only; omega) z
  have F_3 := fun (C : World → Prop) (hC : Vs.Grows (fun j => j = w.heap.size + 1 ∨ j = w.heap.size + 2) A7 C) (z : Vs.In C) => hC.cell d1 (by simp only; omega) z
  have F_4 := fun (C : World → Prop) (hC : Vs.Grows (fun j => j = w.heap.size + 1 ∨ j = w.heap.size + 2) A7 C) (z : Vs.In C) => hC.cell d2 (by simp only; omega) z
  refine Vs.wp_region_seg (S := fun j => j = w.heap.size + 1 ∨ j = w.heap.size + 2) [0, 1, 2] [(3, 1), (4, 1), (5, 2)] (by kernel_rfl) (by kernel_rfl) 81 rfl (by kernel_rfl) ?_
  simp only [List.map_cons, List.map_nil, Vs.opOf_succ, Vs.opOf_zero]
  apply Exists.intro
  refine ⟨fun C hC => ?_, ?_⟩
  · haveI hI := hC.one
    have f_0 := F_0 C hC
    have f_1 := F_1 C hC
    have f_2 := F_2 C hC
    have f_3 := F_3 C hC
    have f_4 := F_4 C hC
    repeat (go_big_quiet_step (fail))
    exact wpQuiet_nil rfl
  clear F_0 F_1 F_2 F_3 F_4
  clear q0 q1 d0 d1 d2 hc7 hp8
  refine Vs.wpPath_put rfl fun u hu => ?_
  have hq9 := hq8.on hu
  have hcw9 := hcw.below hu
  have m0 := hq9.ch.c0
  have m1 : u.cell? ⟨w.heap.size + 1, 1, none⟩ = some (.slice none 0 0) := hq9.ch.c1
  have m2 : u.cell? ⟨w.heap.size + 1, 2, none⟩ = some (.slice none 0 0) := hq9.ch.c2
  have z := hq9.ch.z
  refine ⟨((u.setCell ⟨w.heap.size + 1, 0, none⟩ (.int .i64 f)).setCell ⟨w.heap.size + 1, 1, none⟩ (.slice oa on oc)).setCell ⟨w.heap.size + 1, 2, none⟩ (.slice na nn nc), rfl, by simp only [Vs.opOf_succ, Vs.opOf_zero]; go_simp, (putC_fr u (w.heap.size + 1) (f, (oa, on, oc), (na, nn, nc))).mono (fun j _ e => .inl e), ?_⟩
  simp only [Vs.opOf_succ, Vs.opOf_zero, Act.put, List.setIfInBounds_toArray, List.set_cons_zero, List.set_cons_succ]
  have hcY := hcw9.putC (z := (f, (oa, on, oc), (na, nn, nc))) hq9.ch
  have hc1 := hq9.ch.set (f, (oa, on, oc), (na, nn, nc))
  have hp1 := pos_fr hq9.ps (putC_fr u (w.heap.size + 1) (f, (oa, on, oc), (na, nn, nc))) (by omega)
  have hbY := putC_below hq9.below (show w.heap.size ≤ w.heap.size + 1 by omega) (f, (oa, on, oc), (na, nn, nc))
  obtain ⟨Y, hY⟩ : ∃ Y, Y = ((u.setCell ⟨w.heap.size + 1, 0, none⟩ (.int .i64 f)).setCell ⟨w.heap.size + 1, 1, none⟩ (.slice oa on oc)).setCell ⟨w.heap.size + 1, 2, none⟩ (.slice na nn nc) := ⟨_, rfl⟩
  rw [show putC u (w.heap.size + 1) (f, (oa, on, oc), (na, nn, nc)) = Y from hY.symm] at hcY hp1 hbY
  rw [show ((u.setCell ⟨w.heap.size + 1, 0, none⟩ (.int .i64 f)).setCell ⟨w.heap.size + 1, 1, none⟩ (sv (oa, on, oc))).setCell ⟨w.heap.size + 1, 2, none⟩ (sv (na, nn, nc)) = Y from hY.symm] at hc1
  rw [← hY]
  clear hY m0 m1 m2 z hq9 hcw9 hq8 hcw hu
  refine Vs.wpPath_put rfl fun u hu => ?_
  have hp2 := hp1.below hu hp1.lt
  have m0 := hp2.c0
  have m1 := hp2.c1
  have z := pos_z hp2
  refine ⟨(u.setCell ⟨w.heap.size + 2, 0, none⟩ (.int .i64 ((i + N : Nat) : Int))).setCell ⟨w.heap.size + 2, 1, none⟩ (.int .i64 (t1.size : Int)), rfl, by simp only [Vs.opOf_succ, Vs.opOf_zero]; go_simp, (putP_fr u (w.heap.size + 2) ((i + N : Nat) : Int) (t1.size : Int)).mono (fun j _ e => .inr e), ?_⟩
  simp only [Vs.opOf_succ, Vs.opOf_zero, Act.put, List.setIfInBounds_toArray, List.set_cons_zero, List.set_cons_succ]
  refine Vs.wpPath_free (v := .bool true) rfl rfl (fun W => by simp only [Vs.opOf_succ, Vs.opOf_zero]; go_simp) ?_
  simp only [Vs.opOf_succ, Vs.opOf_zero, Act.put, List.setIfInBounds_toArray, List.set_cons_zero, List.set_cons_succ]
  refine Vs.wpPath_end fun u3 hu3 => ?_
  have hz3 : u.heap.size = (putP u (w.heap.size + 2) ((i + N : Nat) : Int) (t1.size : Int)).heap.size := by simp [putP, World.setCell]
  have hu4 : Below (putP u (w.heap.size + 2) ((i + N : Nat) : Int) (t1.size : Int)).heap.size (putP u (w.heap.size + 2) ((i + N : Nat) : Int) (t1.size : Int)) u3 := hu3
  have HE : Hid (ChAt u3 (w.heap.size + 1) (f, (oa, on, oc), (na, nn, nc)) ∧ PosAt u3 (w.heap.size + 2) ((i + N : Nat) : Int) (t1.size : Int) ∧ CW u3 (f, (oa, on, oc), (na, nn, nc)) (i, cutL ls i i, L1.set N (t1 ++ st.extract k st.size)) ∧ Below w.heap.size w u3) := by
    have x1 := (hc1.below hu hc1.lt).fr (putP_fr u (w.heap.size + 2) ((i + N : Nat) : Int) (t1.size : Int)) (by omega)
    have x2 := putP_at hp2 ((i + N : Nat) : Int) (t1.size : Int)
    exact ⟨x1.below hu4 x1.lt, x2.below hu4 x2.lt, ((hcY.below hu).putP hp2).below hu4, below_on (putP_below (below_on hbY hu) (by omega) _ _) hu4⟩
  clear hc1 hp1 hcY hbY hp2 m0 m1 z hu hu3 hz3 hu4
  go_wp2
  exact ret_cpb (g := w.heap.size + 1) (g2 := w.heap.size + 2) rfl rfl rfl rfl rfl HE.out.1 HE.out.2.1 ⟨_, rfl, HE.out.2.2.1, HE.out.2.2.2⟩
end Go.Proofs.Ytkddnknjjdenhaa.Ed
