/-
  Layer 18's laws: what an iterator of blocks tells (heard).
-/
import Derived.Test.YtnngcminomooeaaXc
import Derived.Test.YtnngcminomooeaaXf
set_option linter.unusedVariables false
set_option linter.unusedSimpArgs false
set_option maxRecDepth 100000
namespace Go.Proofs.Ytnngcminomooeaa.Po
open Go Go.RowKit Go.Proofs.Ytnngcminomooeaa.Vk Go.Proofs.Ytnngcminomooeaa.Str Go.Proofs.Ytnngcminomooeaa.Ln Go.Proofs.Ytnngcminomooeaa.Cl Go.Proofs.Ytnngcminomooeaa.Mv Go.Proofs.Ytnngcminomooeaa.Wo Go.Shelf
attribute [local go_sem] Oper.semAt_some

abbrev TR : TypeId := 25
theorem Kn.blw {w Wi V : World} (h : Below w.heap.size w Wi) (k : Kn w Wi V) : Below w.heap.size w V := Kn.below h k
/-- What stands between the rounds. -/
def Bh (w Wi : World) (M D K : Nat) (l : List RN) (V : World) : Prop :=
  Kn w Wi V ∧ V.heap[M]? = some (.cells #[.int .i64 K] 3 (0, 0)) ∧ Got TR ER 2 c2 (M + 1) D l V
theorem Bh.grown {w Wi : World} {M D B K : Nat} {l : List RN} {A A' : World} {row : Option Nat} (h : Bh w Wi M D K l A) (hM : M + 2 ≤ B) (hB : w.heap.size ≤ B) (hg : A.grownBy A' row) (hr : ∀ r, row = some r → B ≤ r ∧ ∃ o : Obj, A.heap[r]? = some o ∧ o.isCells = false) : Bh w Wi M D K l A' := by
  obtain ⟨h1, h2, h4⟩ := h
  exact ⟨own_kn (α := RN) hB [] A A' row h1 hg hr, (hg.block M (Array.getElem?_eq_some_iff.1 h2).1 (fun e => by have := (hr _ e.symm).1; omega)).trans h2, h4.grown (B := B) (by omega) hg hr⟩
/-- .. and there is room. -/
def Br (w Wi : World) (M D K : Nat) (l : List RN) (V : World) : Prop := Kn w Wi V ∧ V.heap[M]? = some (.cells #[.int .i64 K] 3 (0, 0)) ∧ Got TR ER 2 c2 (M + 1) D l V ∧ l.length < K
theorem Br.below {w Wi : World} {M D K : Nat} {l : List RN} {A A' : World} (h : Br w Wi M D K l A) (hb : Below A.heap.size A A') : Br w Wi M D K l A' :=
  ⟨h.1.trans (Fr.ofBelow hb _), (hb.block M (Array.getElem?_eq_some_iff.1 h.2.1).1).trans h.2.1, h.2.2.1.below hb, h.2.2.2⟩

set_option maxHeartbeats 8000000 in
theorem heard_any {m : Nat} {xs : List RN} (v : Value) (K : Nat) (w : World) (h : Tells w v m xs) (hxl : xs.length ≤ 900000) (hK : 1 ≤ K) (hK2 : K ≤ 1073741824) :
    Calls Try.prog 9 #[v, .int .i64 K] w fun e w' => ∃ b N cc, e = .returned (.tuple #[.slice b N cc, .bool true]) ∧ Rs w' b N cc (xs.take K) ∧ Below w.heap.size w w' := by
  obtain ⟨g, lb, rfl, hen, hit⟩ := h
  obtain ⟨i0, hi0, hz0, hz1', hz2'⟩ := info_parts infoR
  have hnf : ∀ W : World, Sem.run Try.prog (Go.binOp .eql 28 (.func (.func g) #[] lb) .nilFunc) W = .ok (.bool false) W := fun W => by kernel_rfl
  refine (callsIn_wide (n := 9)).1 ?_
  refine callsIn_of_wp_marks Try.func9 rfl trivial ?_ rfl
  simp only [Try.ntmps9, List.size_toArray, List.length_cons, List.length_nil, Nat.reduceAdd, Nat.reduceSub, Array.replicate_succ, Array.replicate_zero, List.push_toArray, List.append_toArray, List.nil_append, List.cons_append]
  refine wpIn_mono (Q := noPanic _) ?_ (noPanic_out _)
  gi_wp2
  refine name_world ?_
  intro Wi hWi
  obtain ⟨M, hM⟩ : ∃ M, M = w.heap.size := ⟨_, rfl⟩
  have bi := two_below w (.cells #[.int .i64 K] 3) (.cells #[.slice none 0 0] TR)
  have e0 : ((w.alloc (.cells #[.int .i64 K] 3)).alloc (.cells #[.slice none 0 0] TR)).heap[w.heap.size]? = some (.cells #[.int .i64 K] 3 (0, 0)) := (Below.heap_alloc _ _ _ (by simp)).trans (heap_alloc_new w _)
  have e1 := two_new w (.cells #[.int .i64 K] 3) (.cells #[.slice none 0 0] TR)
  have hsi : ((w.alloc (.cells #[.int .i64 K] 3)).alloc (.cells #[.slice none 0 0] TR)).heap.size = w.heap.size + 2 := by simp
  rw [← hWi] at bi e0 e1 hsi
  rw [← hM] at e0 e1 hsi ⊢
  have hMi : M + 2 = Wi.heap.size := hsi.symm
  have hMw : w.heap.size ≤ M := by omega
  have hwM : M ≤ w.heap.size := by omega
  clear hM hWi hsi hnf
  refine rangeFunc_iter (by omega) (gf := g) (lb := lb) rfl hen hit
    (fun h1 h2 => h1.trans h2) (knB (by omega)) bi (fun _ => rfl)
    (fun pre V => Br w Wi M (Wi.heap.size + 2 + m) K pre V)
    (fun c pre V => c = .exit 0 ∧ pre.length = K ∧ Bh w Wi M (Wi.heap.size + 2 + m) K pre V) ?hI ?hIx ⟨Fr.refl _ _, e0, ⟨none, 0, e1, World.ownsRow_nil _ _ _ _⟩, by simp; omega⟩ ?round ?done ?stop
  case hI =>
    rintro s A B row ⟨h1, h2, h3, h4⟩ hg hr
    have := (show Bh w Wi M (Wi.heap.size + 2 + m) K s A from ⟨h1, h2, h3⟩).grown (B := Wi.heap.size) (by omega) (by omega) hg hr
    exact ⟨this.1, this.2.1, this.2.2, h4⟩
  case hIx =>
    rintro c s A B row ⟨h1, h2, h3⟩ hg hr
    exact ⟨h1, h2, h3.grown (B := Wi.heap.size) (by omega) (by omega) hg hr⟩
  case stop =>
    rintro D c L V hD ⟨rest, hpre⟩ hne ⟨rfl, hLK, hB⟩ hk
    have hbf : xs.take K = L := by rw [← hpre, List.take_append_of_le_length (by omega), List.take_of_length_le (by omega)]
    have HQ := Lib.hid hB
    clear hB hpre hLK hne
    obtain ⟨hF, hmb, ⟨b, cc, g1, hrow⟩⟩ := HQ.out
    have y1 : V.cell? ⟨M + 1, 0, none⟩ = some (.slice b L.length cc) := (cell_of_row V _ 0 _ _ _ g1).trans (by simp)
    have hps := Rs.ofOwn hrow
    have hbel := Kn.below bi hF
    have HK := Lib.hid (And.intro hk (And.intro hps (And.intro hbel hrow)))
    have HB := Lib.hid hbf
    obtain ⟨N, hN⟩ : ∃ N, N = L.length := ⟨_, rfl⟩
    rw [← hN] at y1
    have HN := Lib.hid hN
    clear hF hmb g1 hrow hps hbel hk hbf HQ hN
    gi_wp2
    obtain ⟨hk, hps, hbel, hrow⟩ := HK.out
    refine ⟨by simp, .inl ⟨_, _, rfl, run_takeDeferred hk, ?_⟩⟩
    have hps2 : Rs (V.putObj D (.deferred none)) b L.length cc L := Rs.ofOwn (hrow.kept (grownBy_putObj' _ D _) (by
      cases hbo : (Value.slice b L.length cc).ownBlock with
      | none => exact .inl rfl
      | some g =>
        refine .inr fun e => ?_
        obtain ⟨cs, hcs⟩ := own_row_cells hrow g hbo
        injection e with e
        subst e
        rw [hcs] at hk
        cases hk))
    refine ⟨_, by simp [results, Try.results9, go_sem], b, N, cc, rfl, ?_, hbel.grown (grownBy_putObj' _ D _) hbel.size (fun k e => by cases e; omega)⟩
    rw [HB.out, HN.out]
    exact hps2
  case done =>
    rintro D V hD ⟨h1, h2, h3, h4⟩ hk
    obtain ⟨L, hL⟩ : ∃ L, L = xs := ⟨_, rfl⟩
    rw [← hL] at h3 h4
    have hbf : xs.take K = L := by rw [List.take_of_length_le (by rw [← hL]; omega), hL]
    have HQ := Lib.hid (show Bh w Wi M (Wi.heap.size + 2 + m) K L V from ⟨h1, h2, h3⟩)
    clear h1 h2 h3 h4 hL
    obtain ⟨hF, hmb, ⟨b, cc, g1, hrow⟩⟩ := HQ.out
    have y1 : V.cell? ⟨M + 1, 0, none⟩ = some (.slice b L.length cc) := (cell_of_row V _ 0 _ _ _ g1).trans (by simp)
    have hps := Rs.ofOwn hrow
    have hbel := Kn.below bi hF
    have HK := Lib.hid (And.intro hk (And.intro hps (And.intro hbel hrow)))
    have HB := Lib.hid hbf
    obtain ⟨N, hN⟩ : ∃ N, N = L.length := ⟨_, rfl⟩
    rw [← hN] at y1
    have HN := Lib.hid hN
    clear hF hmb g1 hrow hps hbel hk hbf HQ hN
    gi_wp2
    obtain ⟨hk, hps, hbel, hrow⟩ := HK.out
    refine ⟨by simp, .inl ⟨_, _, rfl, run_takeDeferred hk, ?_⟩⟩
    have hps2 : Rs (V.putObj D (.deferred none)) b L.length cc L := Rs.ofOwn (hrow.kept (grownBy_putObj' _ D _) (by
      cases hbo : (Value.slice b L.length cc).ownBlock with
      | none => exact .inl rfl
      | some g =>
        refine .inr fun e => ?_
        obtain ⟨cs, hcs⟩ := own_row_cells hrow g hbo
        injection e with e
        subst e
        rw [hcs] at hk
        cases hk))
    refine ⟨_, by simp [results, Try.results9, go_sem], b, N, cc, rfl, ?_, hbel.grown (grownBy_putObj' _ D _) hbel.size (fun k e => by cases e; omega)⟩
    rw [HB.out, HN.out]
    exact hps2
  case round =>
    rintro l' pre x V0 ⟨rest, hpr⟩ hsz0 hi0
    dsimp only [encr]
    have HI0 := Lib.hid hi0
    have hpl : pre.length ≤ 1000000 := by have := congrArg List.length hpr; simp at this; omega
    clear hi0
    gi_wp2
    refine ⟨Keep.refl _ _ _, Fr.refl _ _, HI0.out, ?_⟩
    rintro V2 hgr hl - hszV hB2
    have hlt := hB2.2.2.2
    obtain ⟨b, cc, g1, hrow⟩ := hB2.2.2.1
    have y2 : V2.cell? ⟨M + 1, 0, none⟩ = some (.slice b pre.length cc) := (cell_of_row V2 _ 0 _ _ _ g1).trans (by simp)
    have hrow3 := ownsRow_fr hrow ((Fr.refl (fun _ => False) V2).alloc (.cells #[.int .i64 x.1, .int .i64 x.2] ER)) (by simp)
    have hob : ∀ g, (Value.slice b pre.length cc).ownBlock = some g → Wi.heap.size + 2 + m ≤ g := fun g hg => (hrow.lt g hg).1
    have hst : ∀ V4, (V2.alloc (.cells #[.int .i64 x.1, .int .i64 x.2] ER)).grownBy V4 (Value.slice b pre.length cc).ownBlock → V4.heap[M + 1]? = some (.cells #[.slice b pre.length cc] TR (0, 0)) := fun V4 hg4 =>
      (hg4.block (M + 1) (by have := (Array.getElem?_eq_some_iff.1 g1).1; simp; omega) (by intro e; have := hob _ e.symm; omega)).trans ((Below.heap_alloc _ _ _ (by have := (Array.getElem?_eq_some_iff.1 g1).1; exact this)).trans g1)
    have hst0 : ∀ V4, (V2.alloc (.cells #[.int .i64 x.1, .int .i64 x.2] ER)).grownBy V4 (Value.slice b pre.length cc).ownBlock → V4.heap[M]? = some (.cells #[.int .i64 K] 3 (0, 0)) := fun V4 hg4 =>
      (hg4.block M (by have := (Array.getElem?_eq_some_iff.1 hB2.2.1).1; simp; omega) (by intro e; have := hob _ e.symm; omega)).trans ((Below.heap_alloc _ _ _ (by have := (Array.getElem?_eq_some_iff.1 hB2.2.1).1; exact this)).trans hB2.2.1)
    have HO3 := Lib.hid hob
    have HST := Lib.hid hst
    have HST0 := Lib.hid hst0
    have HR3 := Lib.hid hrow3
    have HS3 := Lib.hid (SrcV.run2 V2 x)
    have HP := Lib.hid hB2
    have hszz : Wi.heap.size + 2 + m ≤ V2.heap.size + 1 := by omega
    have HPR := Lib.hid hpr
    clear hB2 g1 hrow hrow3 hob hst hst0 hgr hl HI0 hpr
    rcases Nat.lt_or_ge (pre.length + 1) K with hlK | hlK
    · have dk : decide ((K : Int) ≤ ((pre.length + 1 : Nat) : Int)) = false := decide_eq_false (by omega)
      have dk2 : decide (K ≤ pre.length + 1) = false := decide_eq_false (by omega)
      have dk3 : decide ((K : Int) ≤ (pre.length : Int) + 1) = false := decide_eq_false (by omega)
      gi_wp2_with (gi_at_builtin; go_must (refine wpListIn_append_srcv _ rfl _ _ TR rfl (Wi.heap.size + 2 + m) ER i0 (.agg #[.int .i64 0, .int .i64 0]) 2 16 underR hi0 hz0 hz1' hz2' rfl (by decide) (.slice b pre.length cc) pre.length (fl c2 pre) rfl HR3.out (.slice (some ⟨V2.heap.size, 0, none⟩) 1 1) 1 (c2 x) rfl HS3.out (by simp only [maxLen]; omega) (by omega) (by simp; omega) ?_); intro ob oc V4 hown hg hnr; have y4 : V4.cell? ⟨M + 1, 0, none⟩ = some (.slice b pre.length cc) := (cell_of_row V4 _ 0 _ _ _ (HST.out V4 hg)).trans (by simp); have z4 : V4.frozen? ⟨M + 1, 0, none⟩ = false := frozen_of_row V4 _ 0 _ _ (HST.out V4 hg); have n4 : V4.cell? ⟨M, 0, none⟩ = some (.int .i64 K) := (cell_of_row V4 _ 0 _ _ _ (HST0.out V4 hg)).trans (by simp); have HO := Lib.hid (And.intro hown hg); clear hown hg hnr y2)
      obtain ⟨hown, hg⟩ := HO.out
      have hB2 := HP.out
      have g4 := HST.out V4 hg
      have f4 : Fr (fun k => k = M + 1 ∨ (Value.slice b pre.length cc).ownBlock = some k) V2 V4 := Fr.grown ((Fr.refl _ V2).alloc _) hg (fun k e _ => .inr e)
      have f7 := f4.setCell (p := ⟨M + 1, 0, none⟩) (fun _ => .inl rfl) (.slice ob (pre.length + 1) oc)
      have k7 : Kn w V2 (V4.setCell ⟨M + 1, 0, none⟩ (.slice ob (pre.length + 1) oc)) := f7.mono (fun i _ e => by
        show w.heap.size ≤ i
        rcases e with e | e
        · omega
        · have := HO3.out i e; omega)
      have key : ∀ k, k < M + 1 → k < V2.heap.size → (V4.setCell ⟨M + 1, 0, none⟩ (.slice ob (pre.length + 1) oc)).heap[k]? = V2.heap[k]? := fun k hk hk2 => f7.block k hk2 (fun e => by
        rcases e with e | e
        · omega
        · have := HO3.out k e; omega)
      have hll : (pre ++ [x]).length = pre.length + 1 := by simp
      have hgot : Got TR ER 2 c2 (M + 1) (Wi.heap.size + 2 + m) (pre ++ [x]) (V4.setCell ⟨M + 1, 0, none⟩ (.slice ob (pre.length + 1) oc)) := by
        refine ⟨ob, oc, ?_, ?_⟩
        · rw [hll]
          exact (heap_setCell_same V4 (M + 1) 0 _ _ _ g4).trans (by simp)
        · rw [hll, fl_append, fl_one]
          exact ownsRow_fr hown ((Fr.refl (fun k => k = M + 1) V4).setCell (p := ⟨M + 1, 0, none⟩) (fun _ => rfl) _) (fun i hi e => by have := (hown.lt i hi).1; omega)
      have hkeep := Keep.ofFr (lo := Wi.heap.size) (hi := Wi.heap.size + 2 + m) f7 (by omega) (fun i e => by
        rcases e with e | e
        · exact .inl (by omega)
        · exact .inr (HO3.out i e))
      have hmb := (key M (by omega) (Array.getElem?_eq_some_iff.1 hB2.2.1).1).trans hB2.2.1
      exact ⟨hkeep, k7, hB2.1.trans k7, hmb, hgot, by simp; omega⟩
    · have dk : decide ((K : Int) ≤ ((pre.length + 1 : Nat) : Int)) = true := decide_eq_true (by omega)
      have dk2 : decide (K ≤ pre.length + 1) = true := decide_eq_true (by omega)
      have dk3 : decide ((K : Int) ≤ (pre.length : Int) + 1) = true := decide_eq_true (by omega)
      gi_wp2_with (gi_at_builtin; go_must (refine wpListIn_append_srcv _ rfl _ _ TR rfl (Wi.heap.size + 2 + m) ER i0 (.agg #[.int .i64 0, .int .i64 0]) 2 16 underR hi0 hz0 hz1' hz2' rfl (by decide) (.slice b pre.length cc) pre.length (fl c2 pre) rfl HR3.out (.slice (some ⟨V2.heap.size, 0, none⟩) 1 1) 1 (c2 x) rfl HS3.out (by simp only [maxLen]; omega) (by omega) (by simp; omega) ?_); intro ob oc V4 hown hg hnr; have y4 : V4.cell? ⟨M + 1, 0, none⟩ = some (.slice b pre.length cc) := (cell_of_row V4 _ 0 _ _ _ (HST.out V4 hg)).trans (by simp); have z4 : V4.frozen? ⟨M + 1, 0, none⟩ = false := frozen_of_row V4 _ 0 _ _ (HST.out V4 hg); have n4 : V4.cell? ⟨M, 0, none⟩ = some (.int .i64 K) := (cell_of_row V4 _ 0 _ _ _ (HST0.out V4 hg)).trans (by simp); have HO := Lib.hid (And.intro hown hg); clear hown hg hnr y2)
      obtain ⟨hown, hg⟩ := HO.out
      have hB2 := HP.out
      have g4 := HST.out V4 hg
      have f4 : Fr (fun k => k = M + 1 ∨ (Value.slice b pre.length cc).ownBlock = some k) V2 V4 := Fr.grown ((Fr.refl _ V2).alloc _) hg (fun k e _ => .inr e)
      have f7 := f4.setCell (p := ⟨M + 1, 0, none⟩) (fun _ => .inl rfl) (.slice ob (pre.length + 1) oc)
      have k7 : Kn w V2 (V4.setCell ⟨M + 1, 0, none⟩ (.slice ob (pre.length + 1) oc)) := f7.mono (fun i _ e => by
        show w.heap.size ≤ i
        rcases e with e | e
        · omega
        · have := HO3.out i e; omega)
      have key : ∀ k, k < M + 1 → k < V2.heap.size → (V4.setCell ⟨M + 1, 0, none⟩ (.slice ob (pre.length + 1) oc)).heap[k]? = V2.heap[k]? := fun k hk hk2 => f7.block k hk2 (fun e => by
        rcases e with e | e
        · omega
        · have := HO3.out k e; omega)
      have hll : (pre ++ [x]).length = pre.length + 1 := by simp
      have hgot : Got TR ER 2 c2 (M + 1) (Wi.heap.size + 2 + m) (pre ++ [x]) (V4.setCell ⟨M + 1, 0, none⟩ (.slice ob (pre.length + 1) oc)) := by
        refine ⟨ob, oc, ?_, ?_⟩
        · rw [hll]
          exact (heap_setCell_same V4 (M + 1) 0 _ _ _ g4).trans (by simp)
        · rw [hll, fl_append, fl_one]
          exact ownsRow_fr hown ((Fr.refl (fun k => k = M + 1) V4).setCell (p := ⟨M + 1, 0, none⟩) (fun _ => rfl) _) (fun i hi e => by have := (hown.lt i hi).1; omega)
      have hkeep := Keep.ofFr (lo := Wi.heap.size) (hi := Wi.heap.size + 2 + m) f7 (by omega) (fun i e => by
        rcases e with e | e
        · exact .inl (by omega)
        · exact .inr (HO3.out i e))
      have hmb := (key M (by omega) (Array.getElem?_eq_some_iff.1 hB2.2.1).1).trans hB2.2.1
      exact ⟨hkeep, rfl, by simp; omega, hB2.1.trans k7, hmb, hgot⟩

/-- Runs held against the same. -/
theorem ne_run (a b : Int) (W : World) : (binOp .neq 33 (.agg #[.int .i64 a, .int .i64 b]) (.agg #[.int .i64 a, .int .i64 b])).run Try.prog W = .ok (.bool false) W := by
  have hS : Try.prog.underlying 33 = some (.struct (Try.prog.fieldsOf 33)) := by kernel_rfl
  have hp : Try.prog.stoodInHeld 33 = false := by kernel_rfl
  rw [run_neq_struct, show (10000 : Nat) = 9999 + 1 from rfl, run_equalIn_agg W 9999 33 _ _ hS hp]
  simp only [Program.fieldsOf, Try.underlying33]
  go_simp
end Go.Proofs.Ytnngcminomooeaa.Po
