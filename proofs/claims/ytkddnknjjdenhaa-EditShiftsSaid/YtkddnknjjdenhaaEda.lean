/-
  Package edit: changes as values; slices.Clone of strings; replaced, inside, and the document's over; two changes held against one another.
-/
import Derived.Test.YtkddnknjjdenhaaMo
import Derived.Test.YtkddnknjjdenhaaSq
import Derived.Test.YtkddnknjjdenhaaQf
import Derived.Test.YtkddnknjjdenhaaQu
import Derived.Laws.StructEq
set_option linter.unusedVariables false
set_option linter.unusedSimpArgs false
set_option maxRecDepth 100000
namespace Go.Proofs.Ytkddnknjjdenhaa.Ed
open Go Go.RowKit Go.Proofs.Ytkddnknjjdenhaa.Vk Go.Proofs.Ytkddnknjjdenhaa.Str Go.Proofs.Ytkddnknjjdenhaa.Ln Go.Proofs.Ytkddnknjjdenhaa.Cl Go.Proofs.Ytkddnknjjdenhaa.Mv
attribute [local go_sem] Oper.semAt_some

theorem ret_bool {p q : Bool} (h : p = q) : Ending.returned (.bool p) = Ending.returned (.bool q) := by rw [h]
theorem cell_one {w : World} {p : Addr} {v : Value} (h : w.cell? p = some v) (O : Obj) : (w.alloc O).cell? p = some v :=
  cell_later ((Below.refl _ w).alloc (Nat.le_refl _) O) h
theorem one_below (w : World) (O : Obj) : Below w.heap.size w (w.alloc O) := (Below.refl _ _).alloc (Nat.le_refl _) O
abbrev TC : TypeId := 31
/-- A slice value; a change as it lies; a change as it is meant. -/
abbrev Sl := Option Addr × Nat × Nat
def sv (s : Sl) : Value := .slice s.1 s.2.1 s.2.2
abbrev Rw := Int × Sl × Sl
def cv (x : Rw) : Value := .agg #[.int .i64 x.1, sv x.2.1, sv x.2.2]
abbrev Ch := Int × List ByteArray × List ByteArray
def SS (w : World) (s : Sl) (ls : List ByteArray) : Prop := Ss w s.1 s.2.1 s.2.2 ls
theorem SS.below {w w' : World} {s : Sl} {ls : List ByteArray} (h : SS w s ls) (hb : Below w.heap.size w w') : SS w' s ls := SrcV.below h hb
def CW (w : World) (x : Rw) (c : Ch) : Prop := x.1 = c.1 ∧ SS w x.2.1 c.2.1 ∧ SS w x.2.2 c.2.2
theorem CW.below {w w' : World} {x : Rw} {c : Ch} (h : CW w x c) (hb : Below w.heap.size w w') : CW w' x c := ⟨h.1, h.2.1.below hb, h.2.2.below hb⟩
theorem CW.zero (w : World) : CW w (0, (none, 0, 0), (none, 0, 0)) (0, [], []) := ⟨rfl, SrcV.nil w 1, SrcV.nil w 1⟩
/-- A change in a variable. -/
def ChAt (w : World) (g : Nat) (x : Rw) : Prop := w.heap[g]? = some (.cells #[.int .i64 x.1, sv x.2.1, sv x.2.2] TC (0, 0))
section
variable {w w' : World} {g g' B : Nat} {x : Rw}
theorem ChAt.below (h : ChAt w g x) (hb : Below B w w') (hg : g < B) : ChAt w' g x := (hb.block g hg).trans h
theorem ChAt.fr {S : Nat → Prop} (h : ChAt w g x) (hf : Fr S w w') (hg : ¬ S g) : ChAt w' g x := (hf.block g (Array.getElem?_eq_some_iff.1 h).1 hg).trans h
theorem ChAt.lt (h : ChAt w g x) : g < w.heap.size := (Array.getElem?_eq_some_iff.1 h).1
theorem ChAt.c0 (h : ChAt w g x) : w.cell? ⟨g, 0, none⟩ = some (.int .i64 x.1) := (cell_of_row w _ 0 _ _ _ h).trans (by simp)
theorem ChAt.c1 (h : ChAt w g x) : w.cell? ⟨g, 1, none⟩ = some (sv x.2.1) := (cell_of_row w _ 1 _ _ _ h).trans (by simp)
theorem ChAt.c2 (h : ChAt w g x) : w.cell? ⟨g, 2, none⟩ = some (sv x.2.2) := (cell_of_row w _ 2 _ _ _ h).trans (by simp)
theorem ChAt.z (h : ChAt w g x) (k : Nat) : w.frozen? ⟨g, k, none⟩ = false := frozen_of_row w _ k _ _ h
theorem ChAt.new (w : World) (x : Rw) : ChAt (w.alloc (.cells #[.int .i64 x.1, sv x.2.1, sv x.2.2] TC)) w.heap.size x := heap_alloc_new w _
theorem ChAt.set (h : ChAt w g x) (y : Rw) : ChAt (((w.setCell ⟨g, 0, none⟩ (.int .i64 y.1)).setCell ⟨g, 1, none⟩ (sv y.2.1)).setCell ⟨g, 2, none⟩ (sv y.2.2)) g y := by
  have h1 := (heap_setCell_same w g 0 _ _ (.int .i64 y.1) h)
  have h2 := (heap_setCell_same _ g 1 _ _ (sv y.2.1) h1)
  exact (heap_setCell_same _ g 2 _ _ (sv y.2.2) h2).trans (by simp)
/-- What a store into the variable makes. -/
def putC (w : World) (g : Nat) (y : Rw) : World := ((w.setCell ⟨g, 0, none⟩ (.int .i64 y.1)).setCell ⟨g, 1, none⟩ (sv y.2.1)).setCell ⟨g, 2, none⟩ (sv y.2.2)
theorem putC_fr (w : World) (g : Nat) (y : Rw) : Fr (fun j => j = g) w (putC w g y) :=
  (((Fr.refl (fun j => j = g) w).setCell (p := ⟨g, 0, none⟩) (fun _ => rfl) (.int .i64 y.1)).setCell (p := ⟨g, 1, none⟩) (fun _ => rfl) (sv y.2.1)).setCell (p := ⟨g, 2, none⟩) (fun _ => rfl) (sv y.2.2)
theorem putC_below {w0 : World} {B : Nat} (hb : Below B w0 w) (hg : B ≤ g) (y : Rw) : Below B w0 (putC w g y) :=
  ((hb.setCell (p := ⟨g, 0, none⟩) hg (.int .i64 y.1)).setCell (p := ⟨g, 1, none⟩) hg (sv y.2.1)).setCell (p := ⟨g, 2, none⟩) hg (sv y.2.2)
theorem putC_size (w : World) (g : Nat) (y : Rw) : (putC w g y).heap.size = w.heap.size := by simp [putC]
end
theorem results_cell_tmp {P : Program} {fn : Func} {p q : Tmp} {ty : TypeId} (h : fn.results = #[.cell p ty, .tmp q]) (tmps : Array Value) (w : World) (g : Nat) (t : TypeId) (cs : Array Value) (fr : Nat × Nat) (d : TypeDesc) (v : Value)
    (hp : tmps.getD p undef = .pointer (some ⟨g, 0, none⟩)) (hg : w.heap[g]? = some (.cells cs t fr)) (hq : tmps.getD q undef = v)
    (hu : P.underlying ty = some d) (hd : (match d with | .struct _ | .array _ _ => true | _ => false) = true) (hi : (P.info? ty).map (·.size) = some cs.size) :
    (results fn tmps).run P w = .ok (.tuple #[.agg cs, v]) w := by
  have hp' : tmps[p]?.getD undef = .pointer (some ⟨g, 0, none⟩) := by simpa using hp
  have hq' : tmps[q]?.getD undef = v := by simpa using hq
  simp [results, h, hp', hq', asAddr, run_loadVar_row w g t ty cs fr d hg hu hd hi]
theorem results_cell_tmp2 {P : Program} {fn : Func} {p q r : Tmp} {ty : TypeId} (h : fn.results = #[.cell p ty, .tmp q, .tmp r]) (tmps : Array Value) (w : World) (g : Nat) (t : TypeId) (cs : Array Value) (fr : Nat × Nat) (d : TypeDesc) (v u : Value)
    (hp : tmps.getD p undef = .pointer (some ⟨g, 0, none⟩)) (hg : w.heap[g]? = some (.cells cs t fr)) (hq : tmps.getD q undef = v) (hr : tmps.getD r undef = u)
    (hu : P.underlying ty = some d) (hd : (match d with | .struct _ | .array _ _ => true | _ => false) = true) (hi : (P.info? ty).map (·.size) = some cs.size) :
    (results fn tmps).run P w = .ok (.tuple #[.agg cs, v, u]) w := by
  have hp' : tmps[p]?.getD undef = .pointer (some ⟨g, 0, none⟩) := by simpa using hp
  have hq' : tmps[q]?.getD undef = v := by simpa using hq
  have hr' : tmps[r]?.getD undef = u := by simpa using hr
  simp [results, h, hp', hq', hr', asAddr, run_loadVar_row w g t ty cs fr d hg hu hd hi]
theorem results_cell2_tmp {P : Program} {fn : Func} {p p2 r : Tmp} {ty ty2 : TypeId} (h : fn.results = #[.cell p ty, .cell p2 ty2, .tmp r]) (tmps : Array Value) (w : World) (g g2 : Nat) (t t2 : TypeId) (cs cs2 : Array Value) (fr fr2 : Nat × Nat) (d d2 : TypeDesc) (u : Value)
    (hp : tmps.getD p undef = .pointer (some ⟨g, 0, none⟩)) (hg : w.heap[g]? = some (.cells cs t fr)) (hp2 : tmps.getD p2 undef = .pointer (some ⟨g2, 0, none⟩)) (hg2 : w.heap[g2]? = some (.cells cs2 t2 fr2)) (hr : tmps.getD r undef = u)
    (hu : P.underlying ty = some d) (hd : (match d with | .struct _ | .array _ _ => true | _ => false) = true) (hi : (P.info? ty).map (·.size) = some cs.size)
    (hu2 : P.underlying ty2 = some d2) (hd2 : (match d2 with | .struct _ | .array _ _ => true | _ => false) = true) (hi2 : (P.info? ty2).map (·.size) = some cs2.size) :
    (results fn tmps).run P w = .ok (.tuple #[.agg cs, .agg cs2, u]) w := by
  have hp' : tmps[p]?.getD undef = .pointer (some ⟨g, 0, none⟩) := by simpa using hp
  have hp2' : tmps[p2]?.getD undef = .pointer (some ⟨g2, 0, none⟩) := by simpa using hp2
  have hr' : tmps[r]?.getD undef = u := by simpa using hr
  simp [results, h, hp', hp2', hr', asAddr, run_loadVar_row w g t ty cs fr d hg hu hd hi, run_loadVar_row w g2 t2 ty2 cs2 fr2 d2 hg2 hu2 hd2 hi2]
/-- A change is handed back, alone, with a bool, with a number and a bool, with a place and a bool. -/
theorem ret_c {fn : Func} {p : Tmp} {a : Act} {w : World} {g : Nat} {x : Rw} {Q : Ending → World → Prop} (hr : fn.results = #[.cell p TC]) (hp : a.tmps.getD p undef = .pointer (some ⟨g, 0, none⟩)) (hd : a.defers = [])
    (hg : ChAt w g x) (h : Q (.returned (cv x)) w) : bodyPost Try.prog fn Q Exit.ret a w :=
  bodyPost_ret (results_cell_row hr _ _ g _ _ _ _ hp hg Try.underlying31 rfl (by kernel_rfl)) hd h
theorem ret_cb {fn : Func} {p q : Tmp} {a : Act} {w : World} {g : Nat} {x : Rw} {ok : Bool} {Q : Ending → World → Prop} (hr : fn.results = #[.cell p TC, .tmp q]) (hp : a.tmps.getD p undef = .pointer (some ⟨g, 0, none⟩)) (hq : a.tmps.getD q undef = .bool ok) (hd : a.defers = [])
    (hg : ChAt w g x) (h : Q (.returned (.tuple #[cv x, .bool ok])) w) : bodyPost Try.prog fn Q Exit.ret a w :=
  bodyPost_ret (results_cell_tmp hr _ _ g _ _ _ _ _ hp hg hq Try.underlying31 rfl (by kernel_rfl)) hd h
theorem ret_cib {fn : Func} {p q r : Tmp} {a : Act} {w : World} {g : Nat} {x : Rw} {i : Int} {ok : Bool} {Q : Ending → World → Prop} (hr : fn.results = #[.cell p TC, .tmp q, .tmp r]) (hp : a.tmps.getD p undef = .pointer (some ⟨g, 0, none⟩)) (hq : a.tmps.getD q undef = .int .i64 i) (hb : a.tmps.getD r undef = .bool ok) (hd : a.defers = [])
    (hg : ChAt w g x) (h : Q (.returned (.tuple #[cv x, .int .i64 i, .bool ok])) w) : bodyPost Try.prog fn Q Exit.ret a w :=
  bodyPost_ret (results_cell_tmp2 hr _ _ g _ _ _ _ _ _ hp hg hq hb Try.underlying31 rfl (by kernel_rfl)) hd h
theorem ret_cpb {fn : Func} {p p2 r : Tmp} {a : Act} {w : World} {g g2 : Nat} {x : Rw} {l c : Int} {ok : Bool} {Q : Ending → World → Prop} (hr : fn.results = #[.cell p TC, .cell p2 24, .tmp r]) (hp : a.tmps.getD p undef = .pointer (some ⟨g, 0, none⟩)) (hp2 : a.tmps.getD p2 undef = .pointer (some ⟨g2, 0, none⟩)) (hb : a.tmps.getD r undef = .bool ok) (hd : a.defers = [])
    (hg : ChAt w g x) (hg2 : w.heap[g2]? = some (.cells #[.int .i64 l, .int .i64 c] 24 (0, 0))) (h : Q (.returned (.tuple #[cv x, .agg #[.int .i64 l, .int .i64 c], .bool ok])) w) : bodyPost Try.prog fn Q Exit.ret a w :=
  bodyPost_ret (results_cell2_tmp hr _ _ g g2 _ _ _ _ _ _ _ _ _ hp hg hp2 hg2 hb Try.underlying31 rfl (by kernel_rfl) Try.underlying24 rfl (by kernel_rfl)) hd h

/-- slices.Clone of strings: a row of one's own. -/
theorem clone_own (a : Option Addr) (n c : Nat) (ls : List ByteArray) (w : World) (h : Ss w a n c ls) (hn : n ≤ 1000000) : Calls Try.prog 32 #[.slice a n c] w fun e w' =>
    ∃ b cc, e = .returned (.slice b n cc) ∧ w'.ownsRow w.heap.size ES 1 (.slice b n cc) n (ls.map .string) ∧ Below w.heap.size w w' := by
  obtain ⟨i0, hi0, hz0, hz1, hz2⟩ := info_parts infoS
  have hlen := h.length
  cases a with
  | none =>
    obtain ⟨rfl, rfl⟩ : n = 0 ∧ c = 0 := by
      obtain ⟨_, _, _, ⟨ao, he, h0⟩ | ⟨b, o, c', he, _⟩⟩ := h
      · injection he with _ e2 e3; exact ⟨e2, e3⟩
      · cases he
    obtain rfl : ls = [] := List.length_eq_zero_iff.1 hlen
    have hcmp : ∀ W : World, (binOp .eql 22 (.slice none 0 0) (.slice none 0 0)).run Try.prog W = .ok (.bool true) W := fun W => by kernel_rfl
    clear h
    go_enter Try.func32, Try.ntmps32
    go_wp2
    go_ret
    exact ⟨none, 0, rfl, World.ownsRow_nil _ _ _ _, Below.refl _ _⟩
  | some ad =>
    have HH := Lib.hid h
    clear h
    obtain ⟨X, hX⟩ : ∃ X, X = w.alloc (.cells #[] ES) := ⟨_, rfl⟩
    have hbX : Below w.heap.size w X := by rw [hX]; exact (Below.refl _ w).alloc (Nat.le_refl _) _
    have hown : X.ownsRow w.heap.size ES 1 (.slice (some ⟨w.heap.size, 0, none⟩) 0 0) 0 [] := by
      rw [hX]
      exact ⟨rfl, .inr ⟨w.heap.size, 0, #[], rfl, Nat.le_refl _, heap_alloc_new w _, Nat.le_refl _, by simp [maxLen], rfl, rfl⟩⟩
    have HO := Lib.hid (And.intro hX (And.intro hbX hown))
    have hsrc := Lib.hid (SrcV.below HH.out hbX)
    have hXs : w.heap.size ≤ X.heap.size := hbX.size
    have hcmp : ∀ W : World, (binOp .eql 22 (.slice (some ad) n c) (.slice none 0 0)).run Try.prog W = .ok (.bool false) W := fun W => by kernel_rfl
    clear hX hbX hown
    go_enter Try.func32, Try.ntmps32
    go_wp2_with (at_builtin; rw [← HO.out.1]; go_must (refine append_srcv _ rfl _ _ 22 rfl w.heap.size ES i0 (.string ⟨#[]⟩) 1 16 underS hi0 hz0 hz1 hz2 rfl (by decide) _ 0 [] rfl HO.out.2.2 _ n (ls.map .string) rfl hsrc.out (by simp only [maxLen]; omega) (by omega) hXs ?_); intro ob oc w2 hown hg hnr; have HO2 := Lib.hid (And.intro hown hg); clear hown hg hnr)
    go_ret
    obtain ⟨hown, hg⟩ := HO2.out
    simp only [Nat.zero_add, List.nil_append] at hown ⊢
    refine ⟨ob, oc, rfl, hown, ?_⟩
    exact HO.out.2.1.grown hg HO.out.2.1.size (fun k e => by simp [Value.ownBlock, Act.eval] at e; omega)

/-- Lines f to t. -/
def cutL (ls : List ByteArray) (f t : Nat) : List ByteArray := (ls.drop f).take (t + 1 - f)
theorem cutL_length {ls : List ByteArray} {f t : Nat} (h : f ≤ t) (k : t < ls.length) : (cutL ls f t).length = t + 1 - f := by unfold cutL; rw [List.length_take, List.length_drop]; omega
/-- A part of a slice: as the program cuts it, and what it yields. -/
theorem cut_src {w : World} {b o n c f t : Nat} {ls : List ByteArray} (h : Ss w (some ⟨b, o, none⟩) n c ls) (hf : f ≤ t) (ht : t < n) : Ss w (some ⟨b, o + f, none⟩) (t + 1 - f) (c - f) (cutL ls f t) := by
  have hc : n ≤ c := by
    obtain ⟨_, _, _, ⟨ao, he, h0⟩ | ⟨b', o', c', he, h3, _⟩⟩ := h
    · omega
    · injection he with _ _ e3; subst e3; exact h3
  obtain ⟨A, hA, hd⟩ := SrcV.drop h (show f ≤ n by omega)
  rw [if_neg (show ¬ c = f by omega)] at hA
  cases hA
  have h2 := SrcV.take hd (k := t + 1 - f) (by omega)
  unfold Ss cutL
  rw [List.map_take, List.map_drop]
  exact h2
theorem cap_src {w : World} {b o n c : Nat} {ls : List ByteArray} (h : Ss w (some ⟨b, o, none⟩) n c ls) (h0 : 0 < n) : n ≤ c ∧ c ≤ 9223372036854775807 := by
  obtain ⟨_, _, _, ⟨ao, he, h1⟩ | ⟨b', o', c', he, h3, h4, _⟩⟩ := h
  · omega
  · injection he with _ _ e3; subst e3; unfold maxLen at h4; exact ⟨h3, h4⟩

/-- What a function that hands back a change alone leaves; with a bool. -/
def COut (w : World) (c : Ch) (e : Ending) (w' : World) : Prop := ∃ x : Rw, e = .returned (cv x) ∧ CW w' x c ∧ Below w.heap.size w w'
def CbOut (w : World) (c : Ch × Bool) (e : Ending) (w' : World) : Prop := ∃ x : Rw, e = .returned (.tuple #[cv x, .bool c.2]) ∧ CW w' x c.1 ∧ Below w.heap.size w w'

theorem zero_pair (w : World) : Below w.heap.size w (w.alloc (.cells #[.int .i64 0, .slice none 0 0, .slice none 0 0] TC)) ∧ ChAt (w.alloc (.cells #[.int .i64 0, .slice none 0 0, .slice none 0 0] TC)) w.heap.size (0, (none, 0, 0), (none, 0, 0)) :=
  ⟨one_below _ _, ChAt.new w (0, (none, 0, 0), (none, 0, 0))⟩

set_option maxHeartbeats 1000000 in
theorem replaced_any (a : Option Addr) (n c : Nat) (ls : List ByteArray) (f t : Nat) (ya : Option Addr) (yn yc : Nat) (yl : List ByteArray) (w : World) (h : Ss w a n c ls) (hy : Ss w ya yn yc yl) (hft : f ≤ t) (htn : t < n) (hn : n ≤ 1000000) :
    Calls Try.prog 33 #[.slice a n c, .int .i64 f, .int .i64 t, .slice ya yn yc] w fun e w' => COut w (f, cutL ls f t, yl) e w' := by
  have hlen := h.length
  obtain ⟨b, o, rfl, _⟩ := Ss.read h 0 (by omega)
  obtain ⟨hc1, hc2⟩ := cap_src h (by omega)
  obtain ⟨w1, hw1⟩ : ∃ w1, w1 = w.alloc (.cells #[.int .i64 0, .slice none 0 0, .slice none 0 0] TC) := ⟨_, rfl⟩
  obtain ⟨hb1, hr1⟩ := zero_pair w
  rw [← hw1] at hb1 hr1
  have hcl := clone_own (some ⟨b, o + f, none⟩) (t + 1 - f) (c - f) (cutL ls f t) w1 (cut_src (SrcV.below h hb1) hft htn) (by omega)
  have H := Lib.hid (And.intro (show w1 = w.alloc (.cells #[.int .i64 0, .slice none 0 0, .slice none 0 0] 31) from hw1) (And.intro hb1 (And.intro hr1 hy)))
  have e1 : IntKind.i64.wrap ((t : Int) + 1) = ((t + 1 : Nat) : Int) := by rw [IntKind.wrap_i64]; omega
  have e2 : ((t + 1 : Nat) : Int) ≤ (c : Int) := by omega
  have e3 : (f : Int) ≤ ((t + 1 : Nat) : Int) := by omega
  have e4 : ((t + 1 : Nat) : Int).toNat = t + 1 := by omega
  have e5 : c ≠ f := by omega
  clear h hy hw1 hb1 hr1
  go_enter Try.func33, Try.ntmps33
  go_wp2_with fail
  rw [← H.out.1]
  refine hcl.mono ?_
  rintro e w2 ⟨b2, c2, rfl, hown, hb2⟩
  have hr2 := H.out.2.2.1.below hb2 H.out.2.2.1.lt
  have m0 := hr2.c0
  have m1 : w2.cell? ⟨w.heap.size, 1, none⟩ = some (.slice none 0 0) := hr2.c1
  have m2 : w2.cell? ⟨w.heap.size, 2, none⟩ = some (.slice none 0 0) := hr2.c2
  have z := hr2.z
  have HF : Hid (COut w (f, cutL ls f t, yl) (.returned (cv (f, (b2, t + 1 - f, c2), (ya, yn, yc)))) (putC w2 w.heap.size (f, (b2, t + 1 - f, c2), (ya, yn, yc)))) := by
    have hf := putC_fr w2 w.heap.size (f, (b2, t + 1 - f, c2), (ya, yn, yc))
    refine ⟨_, rfl, ⟨rfl, ?_, ?_⟩, putC_below (below_on H.out.2.1 hb2) (Nat.le_refl _) _⟩
    · have hs : Ss w2 b2 (t + 1 - f) c2 (cutL ls f t) := SrcV.ofOwn hown (one_cells _)
      refine SrcV.fr hs hf fun hm k hk e => ?_
      have h1 := (hown.lt k (by cases b2 <;> exact hk)).1
      have := H.out.2.1.size
      have h3 := H.out.2.2.1.lt
      have e' : k = w.heap.size := e
      omega
    · have hs := SrcV.below (SrcV.below H.out.2.2.2 H.out.2.1) hb2
      refine SrcV.fr hs hf fun hm k hk e => ?_
      have hm' : 0 < yn := hm
      have h1 := SrcV.blkLt H.out.2.2.2 (show 0 < yn * 1 by omega) k hk
      have e' : k = w.heap.size := e
      omega
  have HR := Lib.hid (hr2.set (f, (b2, t + 1 - f, c2), (ya, yn, yc)))
  clear hcl hown hb2 hr2
  go_wp2
  exact ret_c (g := w.heap.size) rfl rfl rfl HR.out HF.out
end Go.Proofs.Ytkddnknjjdenhaa.Ed
