/-
  Buffers: Lines.
-/
import Derived.Test.YtfllgmgipmmpkaaGreatDoorBi
import Derived.Laws.MakeOwn
set_option linter.unusedVariables false
set_option linter.unusedSimpArgs false
set_option maxRecDepth 100000
namespace Go.Proofs.YtfllgmgipmmpkaaGreatDoor.Bf
open Go Go.RowKit Go.Proofs.YtfllgmgipmmpkaaGreatDoor.Vk Go.Proofs.YtfllgmgipmmpkaaGreatDoor.Tm Go.Proofs.YtfllgmgipmmpkaaGreatDoor.Tf Go.Proofs.YtfllgmgipmmpkaaGreatDoor.Lm Go.Shelf Go.Proofs.YtfllgmgipmmpkaaGreatDoor.Tb
attribute [local go_sem] Oper.semAt_some

abbrev ES : TypeId := 9
theorem infoS : (Tryz.prog.info? ES).map (fun i => (i.zero, i.size, i.bytes)) = some (some (.string ⟨#[]⟩), 1, 16) := by kernel_rfl
theorem underS : Tryz.prog.underlying 22 = some (.slice ES) := by kernel_rfl

def GotL (N m : Nat) (xs : List Value) (V : World) : Prop :=
  V.heap[N + 1]? = some (.cells #[.slice (some ⟨N, 0, none⟩) xs.length m] 22 (0, 0)) ∧ V.ownsRow N ES 1 (.slice (some ⟨N, 0, none⟩) xs.length m) xs.length xs

theorem gotL_own {α : Type} {B N m : Nat} (hB : N + 1 < B) (G : List α → List Value) : OwnFrom B (fun pre (V : World) => GotL N m (G pre) V) := by
  rintro s A A' row ⟨h1, h2⟩ hg hr
  refine ⟨(hg.block _ (Array.getElem?_eq_some_iff.1 h1).1 (fun e => by have := (hr _ e.symm).1; omega)).trans h1, ?_⟩
  exact h2.kept hg (.inr (by show some N ≠ row; intro e; have := (hr N e.symm).1; omega))

set_option maxHeartbeats 2000000 in
theorem lines_any {w : World} {base b : Nat} {F : Nat → Prop} {ls : List ByteArray} {edits np used : Nat} (h : Buf w base b F ls edits np used) (hm : MaxOk w) (hu : used ≤ 400000) :
    Calls Tryz.prog 32 #[.pointer (some ⟨b, 0, none⟩)] w fun e w' => ∃ c, e = .returned (.slice (some ⟨w.heap.size, 0, none⟩) ls.length c) ∧ Ss w' (some ⟨w.heap.size, 0, none⟩) ls.length c ls ∧ Below w.heap.size w w' := by
  obtain ⟨i0, hi0, hz0, hz1, hz2⟩ := info_parts infoS
  have hf := h.facts
  have hge := jn_len_ge ls
  have hcnt := count_any h
  have hmk := run_make (P := Tryz.prog) w 22 ES i0 (.string ⟨#[]⟩) underS hi0 hz0 .i64 .i64 0 ls.length (Int.le_refl _) (by omega) (by rw [hz2]; omega) (by omega)
  rw [hz1] at hmk
  simp only [Int.toNat_zero, Int.toNat_natCast, Nat.mul_one] at hmk
  have HH := Lib.hid h
  have HM := Lib.hid hm
  have hmx : Tryz.prog.follows .mixedOrders = true := by kernel_rfl
  clear h hm
  refine (callsIn_wide (n := 9)).1 ?_
  refine callsIn_of_wp_marks Tryz.func32 rfl trivial ?_ rfl
  simp only [Tryz.ntmps32, List.size_toArray, List.length_cons, List.length_nil, Nat.reduceAdd, Nat.reduceSub, Array.replicate_succ, Array.replicate_zero, List.push_toArray, List.append_toArray, List.nil_append, List.cons_append]
  refine wpIn_mono (Q := noPanic _) ?_ (noPanic_out _)
  gi_wp2_with (first
    | (refine ⟨trivial, ?_⟩; gi_at_call 22; refine (callsIn_wide.2 hcnt).mono ?_; rintro e w' ⟨rfl, rfl⟩)
    | (refine ⟨trivial, ?_⟩; gi_at_call 33; refine (callsIn_wide.2 (all_new _ _)).mono ?_; rintro e w' ⟨rfl, rfl⟩))
  refine name_world ?_
  intro Wi hWi
  have si : Wi.heap.size = w.heap.size + 3 := by rw [hWi]; simp
  have bi : Below w.heap.size w Wi := by
    rw [hWi]
    exact (((Below.refl _ w).alloc (Nat.le_refl _) _).alloc (by simp only [World.size_alloc]; omega) _).alloc (by simp only [World.size_alloc]; omega) _
  have e0 : Wi.heap[w.heap.size]? = some (.cells (madeCells #[Value.string ⟨#[]⟩] ls.length) ES (0, 0)) := by rw [hWi]; simp only [heap_alloc_if, World.size_alloc]; repeat (first | rw [if_pos trivial] | rw [if_pos (by omega)] | rw [if_neg (by omega)])
  have e1 : Wi.heap[w.heap.size + 1]? = some (.cells #[.slice (some ⟨w.heap.size, 0, none⟩) 0 ls.length] 22 (0, 0)) := by rw [hWi]; simp only [heap_alloc_if, World.size_alloc]; repeat (first | rw [if_pos trivial] | rw [if_pos (by omega)] | rw [if_neg (by omega)])
  have c2 : Wi.cell? ⟨w.heap.size + 2, 0, none⟩ = some (.pointer (some ⟨b, 0, none⟩)) := (cell_of_row Wi _ 0 _ _ _ (by rw [hWi]; simp only [heap_alloc_if, World.size_alloc]; repeat (first | rw [if_pos trivial] | rw [if_pos (by omega)] | rw [if_neg (by omega)]))).trans (by simp)
  have hown0 : Wi.ownsRow w.heap.size ES 1 (.slice (some ⟨w.heap.size, 0, none⟩) 0 ls.length) 0 [] :=
    ⟨rfl, .inr ⟨w.heap.size, ls.length, _, rfl, Nat.le_refl _, e0, Nat.zero_le _, by simp only [maxLen]; omega, by simp [madeCells], rfl⟩⟩
  have iter := all_iter (w.heap.size + 2) (HH.out.below bi) (HM.out.below bi) hu c2
  have hlt := fun k hk => HH.out.lt (k := k) hk
  have hnv : ∀ pre : List (Nat × ByteArray), (pre.map fun x => Value.string x.2).length = pre.length := by simp
  clear hWi c2 e0 hmk
  refine rangeFunc_iter (by omega) (gf := 56) (lb := #[.pointer (some ⟨w.heap.size + 2, 0, none⟩)]) rfl (enters_of Tryz.func56 (by kernel_rfl) rfl) iter
    (fun h1 h2 => h1.trans h2) (fun V l o o' _ h1 h2 _ => KpC.putObj _ V l o o' h1 h2) (Below.refl _ _) (fun _ => rfl)
    (fun pre V => Below w.heap.size w V ∧ GotL w.heap.size ls.length (pre.map fun x => Value.string x.2) V)
    (fun c pre V => False) ?hI ?hIx ⟨bi, e1, hown0⟩ ?round ?done ?stop
  case hI => exact OwnFrom.and (own_below (by omega) (by omega)) (gotL_own (by omega) _)
  case hIx => exact fun c s A B row hs hg hr => hs
  case stop => exact fun _ _ _ _ _ _ _ h _ => h.elim
  case round =>
    rintro l' pre x V0 ⟨rest, hpr⟩ hsz0 hi0
    obtain ⟨hk, rfl⟩ := en_at hpr
    dsimp only [enc2]
    gi_wp2
    refine ⟨Keep.refl _ _ _, KpC.refl _ _, hi0, ?_⟩
    rintro V - - - hszV ⟨hB, g1, hrow⟩
    clear hi0 hpr
    have y1 : V.cell? ⟨w.heap.size + 1, 0, none⟩ = some (.slice (some ⟨w.heap.size, 0, none⟩) (pre.map fun x => Value.string x.2).length ls.length) := (cell_of_row V _ 0 _ _ _ g1).trans (by simp)
    rw [hnv] at y1
    have z1 : V.frozen? ⟨w.heap.size + 1, 0, none⟩ = false := frozen_of_row V _ 0 _ _ g1
    generalize hst : ls[pre.length] = st at *
    obtain ⟨V1, hV1⟩ : ∃ V1, V1 = V.alloc (.cells #[.string st] ES) := ⟨_, rfl⟩
    have hrow1 : V1.ownsRow w.heap.size ES 1 (.slice (some ⟨w.heap.size, 0, none⟩) pre.length ls.length) pre.length (pre.map fun x => Value.string x.2) := by
      rw [hV1]; rw [hnv] at hrow; exact ownsRow_fr hrow ((Fr.refl (fun _ => False) V).alloc _) (by simp)
    have hsrc : ∀ (j : Nat) u, [Value.string st][j]? = some u → V1.cell? ((⟨V.heap.size, 0, none⟩ : Addr).add j) = some u := by
      intro j u hj
      rw [hV1]
      have := (SrcV.lit V #[.string st] ES 1 rfl (by simp [Value.oneCell']) (by simp [maxLen])).at (j := j) (u := u) (by simpa using hj)
      obtain ⟨b', o', he, hc, _⟩ := this
      simp only [Option.some.injEq, Addr.mk.injEq] at he
      obtain ⟨rfl, rfl, _⟩ := he
      rw [Addr.add_lit]; exact hc
    have HG := Lib.hid (And.intro hB g1)
    have HR1 := Lib.hid hrow1
    have HSR := Lib.hid hsrc
    clear hB g1 hrow hrow1 hsrc
    subst hV1
    have hst2 : ∀ w2, (V.alloc (.cells #[.string st] ES)).grownBy w2 (some w.heap.size) → w2.heap[w.heap.size + 1]? = some (.cells #[.slice (some ⟨w.heap.size, 0, none⟩) (pre.map fun x => Value.string x.2).length ls.length] 22 (0, 0)) := fun w2 hg2 =>
      (hg2.block (w.heap.size + 1) (by simp; omega) (by intro e; injection e with e; omega)).trans ((Below.heap_alloc V _ _ (by omega)).trans HG.out.2)
    have HST2 := Lib.hid hst2
    clear hst2
    gi_wp2_with (gi_at_builtin; go_must (refine wpListIn_append_fits _ rfl _ _ 22 rfl w.heap.size ES i0 1 underS hi0 hz1 w.heap.size pre.length ls.length _ rfl HR1.out ⟨V.heap.size, 0, none⟩ 1 1 [.string st] rfl rfl HSR.out (by simp [Value.oneCell']) (by omega) ?_); intro w2 hown2 hg2; have y2 : w2.cell? ⟨w.heap.size + 1, 0, none⟩ = some (.slice (some ⟨w.heap.size, 0, none⟩) pre.length ls.length) := ((cell_of_row w2 _ 0 _ _ _ (HST2.out w2 hg2)).trans (by simp)); have z2 : w2.frozen? ⟨w.heap.size + 1, 0, none⟩ = false := frozen_of_row w2 _ 0 _ _ (HST2.out w2 hg2); have HW2 := Lib.hid (And.intro hown2 hg2); clear hown2 hg2)
    gi_wp2
    obtain ⟨hown2, hg2⟩ := HW2.out
    obtain ⟨hB, g1⟩ := HG.out
    have f1 : Fr (fun k => k = w.heap.size ∨ k = w.heap.size + 1) V w2 := ((Fr.refl _ V).alloc (.cells #[.string st] ES)).trans ⟨hg2.os, hg2.tape, hg2.output, hg2.size, fun k hk hn => hg2.block k hk (by intro e; injection e with e; exact hn (.inl (by omega)))⟩
    have f2 : Fr (fun k => k = w.heap.size ∨ k = w.heap.size + 1) V (w2.setCell ⟨w.heap.size + 1, 0, none⟩ (.slice (some ⟨w.heap.size, 0, none⟩) (pre.length + 1) ls.length)) := f1.setCell (p := ⟨w.heap.size + 1, 0, none⟩) (fun _ => .inr rfl) _
    have h1 := HST2.out w2 hg2
    refine ⟨Keep.ofFr f2 (by omega) (by intro k hk; omega), KpC.ofFr f2 (by intro k hk; omega), hB.trans (f2.below (B := w.heap.size) (by omega) (by intro k hk; omega)), ?_, ?_⟩
    · rw [heap_setCell_same _ _ _ _ _ _ h1, hnv]
      simp
    · have e1 : (pre ++ [(pre.length, st)]).map (fun x => Value.string x.2) = (pre.map fun x => Value.string x.2) ++ [.string st] := by simp
      rw [e1, List.length_append, hnv]
      exact ownsRow_fr hown2 ((Fr.refl (fun k => k = w.heap.size + 1) w2).setCell (p := ⟨w.heap.size + 1, 0, none⟩) (fun _ => rfl) _) (by intro k hk e; simp [Value.ownBlock] at hk; omega)
  case done =>
    rintro D V hD ⟨hB, g1, hrow⟩ hk
    have hxs : (en ls).map (fun x => Value.string x.2) = ls.map Value.string := by
      have : (en ls).map (·.2) = ls := by
        apply List.ext_getElem?
        intro j
        unfold en
        rw [List.map_map, List.getElem?_map]
        by_cases hj : j < ls.length
        · rw [List.getElem?_range hj, List.getElem?_eq_getElem hj]
          simp [List.getD_eq_getElem?_getD, List.getElem?_eq_getElem hj]
        · rw [List.getElem?_eq_none (by simpa using hj), List.getElem?_eq_none (by omega)]; rfl
      conv => rhs; rw [← this]
      simp
    rw [hxs] at g1 hrow
    have hln : (ls.map Value.string).length = ls.length := by simp
    rw [hln] at g1 hrow
    have y1 : V.cell? ⟨w.heap.size + 1, 0, none⟩ = some (.slice (some ⟨w.heap.size, 0, none⟩) ls.length ls.length) := (cell_of_row V _ 0 _ _ _ g1).trans (by simp)
    have HV := Lib.hid (And.intro hB hrow)
    have HK := Lib.hid hk
    clear hB g1 hrow hk
    gi_wp2
    refine ⟨by simp, .inl ⟨_, _, rfl, run_takeDeferred (w := V) HK.out, ?_⟩⟩
    obtain ⟨hB, hrow⟩ := HV.out
    have hBD : Below w.heap.size w (V.putObj D (.deferred none)) := hB.grown (grownBy_putObj' _ D _) hB.size (fun k e => by cases e; omega)
    have hrowD : (V.putObj D (.deferred none)).ownsRow w.heap.size ES 1 (.slice (some ⟨w.heap.size, 0, none⟩) ls.length ls.length) ls.length (ls.map Value.string) :=
      hrow.kept (grownBy_putObj' _ D _) (.inr (by show some w.heap.size ≠ some D; intro e; injection e with e; omega))
    exact ⟨.slice (some ⟨w.heap.size, 0, none⟩) ls.length ls.length, by simp [results, Tryz.results32, go_sem], ls.length, rfl, SrcV.ofOwn hrowD (by simp [Value.oneCell']), hBD⟩
end Go.Proofs.YtfllgmgipmmpkaaGreatDoor.Bf
