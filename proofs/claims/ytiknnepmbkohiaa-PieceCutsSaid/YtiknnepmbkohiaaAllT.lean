/-
  The table's iterator over its pieces has its contract.
-/
import Derived.Test.YtiknnepmbkohiaaBytes
set_option linter.unusedVariables false
namespace Go.Proofs.Ytiknnepmbkohiaa.Tb
open Go Go.RowKit Go.Proofs.Ytiknnepmbkohiaa.Vk Go.Shelf
open VecP (E TV)
attribute [local go_sem] Oper.semAt_some

/-- A piece as a string. -/
def Pc.str (B : Nat → List UInt8) (q : Pc) : ByteArray := ⟨(q.txt B).toArray⟩

theorem Fr.keep {S : Nat → Prop} {a b : Nat} {V V' : World} (h : Fr (fun k => S k ∨ a ≤ k) V V') {m : Nat} (hk : Keep b (b + m) V V') {j : Nat} (hj : j ≤ m) : Fr (fun k => (S k ∨ (a ≤ k ∧ k < b)) ∨ b + j ≤ k) V V' :=
  ⟨h.os, h.tape, h.output, h.size, fun k hlt hn => by
    by_cases hb : b ≤ k ∧ k < b + m
    · exact hk.same k hb.1 hb.2
    · refine h.block k hlt (fun e => e.elim (fun e => hn (.inl (.inl e))) (fun e => ?_))
      by_cases hkb : k < b
      · exact hn (.inl (.inr ⟨e, hkb⟩))
      · exact hn (.inr (by omega))⟩

theorem list_pairs (ps : List Pc) : ((List.range ps.length).map fun k => (k, ps.getD k ⟨0, 0, 0⟩)).map (·.2) = ps := by
  rw [List.map_map]
  apply List.ext_getElem
  · simp
  · intro i h1 h2
    simp at h1
    simp [List.getD_eq_getElem?_getD, h1]

theorem list_strs {α : Type} (ps : List Pc) (f : Pc → α) : ((List.range ps.length).map fun k => (k, ps.getD k ⟨0, 0, 0⟩)).map (fun x => f x.2) = ps.map f := by
  rw [show (fun x : Nat × Pc => f x.2) = f ∘ (·.2) from rfl, ← List.map_map, list_pairs]

section
variable {w : World} {base t p : Nat} {r : Option Nat} {b0 : Option Addr} {c0 : Nat} {l0 : List UInt8} {b1 : Option Addr} {c1 : Nat} {l1 : List UInt8} {ps : List Pc} {T : List UInt8} {most : Int} {edits used : Nat}

set_option maxHeartbeats 4000000 in
theorem tall_iter (h : TabX w base t p r b0 c0 l0 b1 c1 l1 ps T most edits used) (bt : Nat) (hn : ps.length ≤ 1000000) (S : Nat → Prop) (hS : ∀ k, foot t p r b0 b1 k → ¬ S k) (hSt : ¬ S bt) (hSw : ∀ k, S k → k < w.heap.size)
    (hbt : w.cell? ⟨bt, 0, none⟩ = some (.pointer (some ⟨t, 0, none⟩))) :
    Iter Try.prog 26 #[.pointer (some ⟨bt, 0, none⟩)] (fun s : ByteArray => #[.string s]) 9 (fun W W' => Fr (fun k => S k ∨ w.heap.size ≤ k) W W') (ps.map (Pc.str (bufs l0 l1))) w := fun l J Jx W hW hJ hJx hY h0 => by
  have hs := hW.size
  have hbtw : bt < w.heap.size := World.block_lt_of_cell? w _ hbt
  have hbt' := (hW.cell hbtw).trans hbt
  have hx := h.below hW
  have htw : t < w.heap.size := (h.foot_lt (.inl rfl)).2
  obtain ⟨k0, k1, k2, k3, k4, k5⟩ := hx.cells
  have l1' : bt < W.heap.size := Nat.lt_of_lt_of_le hbtw hs
  have l2' : t < W.heap.size := Nat.lt_of_lt_of_le htw hs
  have n1 : ¬ (bt = W.heap.size) := by omega
  have n2 : ¬ (t = W.heap.size) := by omega
  have HX := Lib.hid hx
  have H0 := Lib.hid h
  clear k0 k1 k3 k4 k5 hx h
  refine callsIn_of_wp_marks Try.func26 rfl trivial ?_ rfl
  simp only [Try.ntmps26, List.size_toArray, List.length_cons, List.length_nil, Nat.reduceAdd, Nat.reduceSub, Array.replicate_succ, Array.replicate_zero, List.push_toArray, List.append_toArray, List.nil_append, List.cons_append]
  have hmx : Try.prog.follows .mixedOrders = true := by kernel_rfl
  refine wpIn_mono (Q := noPanic _) ?_ (noPanic_out _)
  gi_wp2_with (refine ⟨trivial, ?_⟩; gi_at_call 24; refine (callsIn_wide.2 (VecP.all_new _ _)).mono ?_; rintro e w' ⟨rfl, rfl⟩)
  refine name_world ?_
  intro Wi hWi
  replace hWi : Wi = ((W.alloc (.cells #[.func (.yield l) #[] #[]] 65)).alloc (.cells #[.pointer (some ⟨p, 0, none⟩)] 48)).alloc (.cells #[.func (.func 34) #[] #[]] 75) := hWi
  have hsi1 : Wi.heap.size ≤ W.heap.size + 3 := by rw [hWi]; simp
  have hsi2 : W.heap.size + 3 ≤ Wi.heap.size := by rw [hWi]; simp
  have hbi : Below W.heap.size W Wi := by rw [hWi]; exact (((Below.refl _ W).alloc (Nat.le_refl _) _).alloc (by simp) _).alloc (by simp only [World.size_alloc]; omega) _
  have hji : J [] Wi := by rw [hWi]; exact hJ.alloc _ (hJ.alloc _ (hJ.alloc _ h0))
  have hyb : Wi.heap[W.heap.size]? = some (.cells #[.func (.yield l) #[] #[]] 65 (0, 0)) := by rw [hWi]; simp only [heap_alloc_if, World.size_alloc]; repeat (first | rw [if_pos trivial] | rw [if_pos (by omega)] | rw [if_neg (by omega)])
  have c1' : Wi.cell? ⟨W.heap.size + 1, 0, none⟩ = some (.pointer (some ⟨p, 0, none⟩)) := (cell_of_row Wi _ 0 _ _ _ (by rw [hWi]; simp only [heap_alloc_if, World.size_alloc]; repeat (first | rw [if_pos trivial] | rw [if_pos (by omega)] | rw [if_neg (by omega)]))).trans (by simp)
  have c2' : Wi.cell? ⟨W.heap.size + 2, 0, none⟩ = some (.func (.func 34) #[] #[]) := (cell_of_row Wi _ 0 _ _ _ (by rw [hWi]; simp only [heap_alloc_if, World.size_alloc]; repeat (first | rw [if_pos trivial] | rw [if_pos (by omega)] | rw [if_neg (by omega)]))).trans (by simp)
  have hvi := HX.out.vec.fr (Fr.ofBelow hbi (fun _ => False)) (by simp) (by simp)
  have hpl : p < w.heap.size := (H0.out.foot_lt (.inr (.inl rfl))).2
  have hrl : ∀ k, r = some k → k < w.heap.size := fun k hk => (H0.out.vec.rowLt k hk).2
  have iter := VecP.all_iter base p (W.heap.size + 2) (W.heap.size + 1) r ps Wi hvi hn (fun k => S k ∨ (w.heap.size ≤ k ∧ k < W.heap.size)) (fun e => e.elim (hS p (.inr (.inl rfl))) (fun e => by omega)) (fun k hk e => e.elim (hS k (.inr (.inr (.inl hk)))) (fun e => by have := hrl k hk; omega)) (fun e => e.elim (fun e => by have := hSw _ e; omega) (fun e => by omega)) c2' c1'
  clear hWi c1' c2' hvi
  refine rangeFunc_iter (by omega) (gf := 36) (lb := #[.pointer (some ⟨W.heap.size + 2, 0, none⟩), .pointer (some ⟨W.heap.size + 1, 0, none⟩)]) rfl (enters_of Try.func36 (by kernel_rfl) rfl) iter
    (fun h1 h2 => h1.trans h2) (frK (by omega)) (Below.refl _ _) (fun _ => rfl)
    (fun pre V => J (pre.map fun x => Pc.str (bufs l0 l1) x.2) V ∧ Fr (fun k => S k ∨ w.heap.size ≤ k) W V ∧ V.heap[W.heap.size]? = some (.cells #[.func (.yield l) #[] #[]] 65 (0, 0)))
    (fun c pre V => c = .ret ∧ Jx (pre.map fun x => Pc.str (bufs l0 l1) x.2) V) ?hI ?hIx ⟨hji, Fr.ofBelow hbi _, hyb⟩ ?round ?done ?stop
  case hI =>
    refine OwnFrom.and (fun s A B row hs hg hr => ownFrom_mono hJ (by omega) _ _ _ row hs hg hr) (OwnFrom.and ?_ (own_heap (by omega) _))
    exact fun s A B row hs hg hr => Fr.grown hs hg (fun k e _ => .inr (by have := (hr k e).1; omega))
  case hIx => exact fun c s A B row hs hg hr => ⟨hs.1, ownFrom_mono hJx (by omega) _ _ _ row hs.2 hg hr⟩
  case round =>
    rintro l' pre x V0 ⟨rest, hpr⟩ hsz0 ⟨hj0, hB0, hy0⟩
    obtain ⟨hk, hx0⟩ := VecP.range_at _ _ pre x rest hpr
    obtain ⟨q, hq⟩ : ∃ q, ps[pre.length]? = some q := ⟨_, List.getElem?_eq_getElem hk⟩
    have hx : x = (pre.length, q) := by rw [hx0, List.getD_eq_getElem?_getD, hq]; rfl
    clear hx0
    have hmap := congrArg (fun L => L.map (Pc.str (bufs l0 l1))) (congrArg (fun L => L.map (·.2)) hpr)
    simp only [list_pairs, List.map_append, List.map_cons] at hmap
    subst hx
    clear hpr
    have HM := Lib.hid hmap
    have HK := Lib.hid hk
    have HQ := Lib.hid hq
    clear hmap hk hq
    obtain ⟨qb, qs, qz⟩ := q
    dsimp only [Pc.val]
    gi_wp2
    refine ⟨(Keep.refl _ _ _).alloc _ hsz0, (Fr.refl _ _).alloc _, ⟨hJ.alloc _ hj0, hB0.alloc _, (Below.heap_alloc _ _ _ (by omega)).trans hy0⟩, ?_⟩
    rintro V2 hgr hl1 hl2 _ - hsz2 hj hB hy2
    have gx : V2.heap[V0.heap.size]? = some (.cells #[.int .i64 qb, .int .i64 qs, .int .i64 qz] E (0, 0)) := (hgr.block _ (by simp) (by intro e; injection e with e; omega)).trans (heap_alloc_new V0 _)
    have hV2 : V0.heap.size < V2.heap.size := by have := hgr.size; simp at this; omega
    clear hj0 hB0 hy0 hgr
    obtain ⟨B, hBx⟩ : ∃ B, B = V0.heap.size := ⟨_, rfl⟩
    rw [← hBx] at gx hV2 ⊢
    have hNB : W.heap.size + 9 ≤ B := by omega
    have x0 : V2.cell? ⟨B, 0, none⟩ = some (.int .i64 qb) := (cell_of_row V2 _ 0 _ _ _ gx).trans (by simp)
    have x1 : V2.cell? ⟨B, 1, none⟩ = some (.int .i64 qs) := (cell_of_row V2 _ 1 _ _ _ gx).trans (by simp)
    have x2 : V2.cell? ⟨B, 2, none⟩ = some (.int .i64 qz) := (cell_of_row V2 _ 2 _ _ _ gx).trans (by simp)
    have hBW : Fr (fun k => S k ∨ w.heap.size ≤ k) w V2 := (Fr.ofBelow hW _).trans hB
    have y0 : V2.cell? ⟨W.heap.size, 0, none⟩ = some (.func (.yield l) #[] #[]) := (cell_of_row V2 _ 0 _ _ _ hy2).trans (by simp)
    have hbt2 : V2.cell? ⟨bt, 0, none⟩ = some (.pointer (some ⟨t, 0, none⟩)) := hBW.cell hbt (fun h => h.elim hSt (fun h => by have h' : w.heap.size ≤ bt := h; omega))
    have hx2 := H0.out.fr hBW (fun k hk h => h.elim (hS k hk) (fun h => by have := (H0.out.foot_lt hk).2; omega))
    have hqm : (⟨qb, qs, qz⟩ : Pc) ∈ ps := List.mem_of_getElem? HQ.out
    have hby : ∀ U, Below V2.heap.size V2 U → Calls Try.prog 25 #[.pointer (some ⟨t, 0, none⟩), .agg #[.int .i64 qb, .int .i64 qs, .int .i64 qz]] U _ := fun U hU => bytes_any (hx2.below hU) ⟨qb, qs, qz⟩ hqm
    have HBY := Lib.hid hby
    have HJ := Lib.hid hj
    have HB := Lib.hid hB
    have HY2 := Lib.hid hy2
    clear hby hj hB hy2 hBx gx hBW hx2 hqm hsz0
    gi_wp2
    gi_region_with_o (first
      | (refine ⟨trivial, ?_⟩; gi_at_call 25
         refine (CallsIn.inRound l' (callsIn_wide.2 (HBY.out _ (by first | exact Below.refl _ _ | exact (Below.refl _ _).drew)))).mono ?_
         rintro e V5 ⟨g, c, rfl, hsrc, hgl, hb5⟩
         have hconv := conv_src V5 _ _ _ _ (hsrc.below hb5)
         have hb5' : Below V2.heap.size V2 V5 := ⟨hb5.os, hb5.tape, hb5.output, hb5.size, hb5.block⟩
         have hs5 := hb5'.size
         have y5 : V5.cell? ⟨W.heap.size, 0, none⟩ = some (.func (.yield l) #[] #[]) := (hb5'.cell (p := ⟨W.heap.size, 0, none⟩) (by show W.heap.size < V2.heap.size; omega)).trans y0
         have hJ5 : J (pre.map fun x => Pc.str (bufs l0 l1) x.2) V5 := hJ _ _ _ none HJ.out ⟨hb5'.os, hb5'.tape, hb5'.output, hb5'.size, fun k hk _ => hb5'.block k hk⟩ (by simp)
         obtain ⟨fn, tmps, assign, body, hy, hR⟩ := hY (pre.map fun x => Pc.str (bufs l0 l1) x.2) (Pc.str (bufs l0 l1) ⟨qb, qs, qz⟩) V5 ⟨(rest.map (·.2)).map (Pc.str (bufs l0 l1)), by rw [HM.out, List.map_map]; rfl⟩ (by omega) hJ5
         dsimp only [Pc.str] at hy
         have HR := Lib.hid hR
         have HB5 := Lib.hid hb5'
         clear hR hb5 hb5' hJ5 hsrc)
      | (refine (roundIn_in l' HR.out).mono ?_
         rintro e V3 ⟨hkeep, hor⟩
         obtain ⟨bv, rfl, HOR⟩ : ∃ bv : Bool, e = .returned (.bool bv) ∧ Hid (if bv = true then J (pre.map (fun x => Pc.str (bufs l0 l1) x.2) ++ [Pc.str (bufs l0 l1) ⟨qb, qs, qz⟩]) V3 ∧ Fr (fun k => S k ∨ w.heap.size ≤ k) V5 V3 else Jx (pre.map (fun x => Pc.str (bufs l0 l1) x.2) ++ [Pc.str (bufs l0 l1) ⟨qb, qs, qz⟩]) V3) := by
           rcases hor with ⟨h1, h2, h3⟩ | ⟨h1, h2⟩
           · exact ⟨true, h1, ⟨h2, h3⟩⟩
           · exact ⟨false, h1, h2⟩
         have HKP := Lib.hid hkeep
         clear hkeep hor))
    all_goals
      clear hy hconv y5
      cases bv
      · gi_wp2
        have hjx : Jx (pre.map (fun x => Pc.str (bufs l0 l1) x.2) ++ [Pc.str (bufs l0 l1) ⟨qb, qs, qz⟩]) V3 := HOR.out
        refine ⟨(VecP.Keep.ofBelow HB5.out (by omega)).trans (HKP.out.mono (by omega) (by omega)), rfl, ?_⟩
        rw [List.map_append]
        exact hjx
      · gi_wp2
        have hjn : J (pre.map (fun x => Pc.str (bufs l0 l1) x.2) ++ [Pc.str (bufs l0 l1) ⟨qb, qs, qz⟩]) V3 ∧ Fr (fun k => S k ∨ w.heap.size ≤ k) V5 V3 := HOR.out
        refine ⟨(VecP.Keep.ofBelow HB5.out (by omega)).trans (HKP.out.mono (by omega) (by omega)), ?_, ?_, ?_, ?_⟩
        · have hk3 := Fr.keep hjn.2 HKP.out (j := 3) (by omega)
          have hk4 : Fr (fun k => (S k ∨ w.heap.size ≤ k ∧ k < W.heap.size) ∨ Wi.heap.size ≤ k) V5 V3 := hk3.mono (fun k _ h => h.elim .inl (fun h => .inr (by omega)))
          exact (Fr.ofBelow HB5.out _).trans hk4
        · rw [List.map_append]
          exact hjn.1
        · exact HB.out.trans ((Fr.ofBelow HB5.out _).trans hjn.2)
        · exact (HKP.out.same _ (by omega) (by omega)).trans ((HB5.out.block _ (by omega)).trans HY2.out)
  case done =>
    rintro D V hD ⟨hj, hB, _⟩ hk
    gi_wp2
    refine ⟨by simp, .inl ⟨_, _, rfl, run_takeDeferred hk, ?_⟩⟩
    refine ⟨_, results_none rfl _ _ _, ⟨_, rfl⟩, .inl ?_⟩
    have := hJ.putObj (.deferred none) hj (by omega) hk rfl
    rwa [list_strs] at this
  case stop =>
    rintro D c pre V hD hpre hne ⟨rfl, hjx⟩ hk
    gi_wp2
    refine ⟨by simp, .inl ⟨_, _, rfl, run_takeDeferred hk, ?_⟩⟩
    refine ⟨_, results_none rfl _ _ _, ⟨_, rfl⟩, .inr ⟨_, ?_, by simpa using hne, hJx.putObj _ hjx (by omega) hk rfl⟩⟩
    have := List.IsPrefix.map (fun x : Nat × Pc => Pc.str (bufs l0 l1) x.2) hpre
    rwa [list_strs] at this
end
end Go.Proofs.Ytiknnepmbkohiaa.Tb
