/-
  Layer 10's laws: what an iterator of places tells (heard); same; the chapter's example (known).
-/
import Derived.Test.YtpdbfdhfonfbeaaGb
import Derived.Test.YtpdbfdhfonfbeaaGm
import Derived.Test.YtpdbfdhfonfbeaaGn
import Derived.Test.YtpdbfdhfonfbeaaGs
import Derived.Test.YtpdbfdhfonfbeaaTw
set_option linter.unusedVariables false
set_option linter.unusedSimpArgs false
set_option maxRecDepth 100000
namespace Go.Proofs.Ytpdbfdhfonfbeaa.Pa
open Go Go.RowKit Go.Proofs.Ytpdbfdhfonfbeaa.Vk Go.Proofs.Ytpdbfdhfonfbeaa.Str Go.Proofs.Ytpdbfdhfonfbeaa.Ln Go.Proofs.Ytpdbfdhfonfbeaa.Cl Go.Proofs.Ytpdbfdhfonfbeaa.Mv Go.Proofs.Ytpdbfdhfonfbeaa.Wd Go.Shelf
attribute [local go_sem] Oper.semAt_some

set_option maxHeartbeats 8000000 in
theorem heard_any {m : Nat} {xs : List P2} (v : Value) (K : Nat) (w : World) (h : Tells w v m xs) (hxl : xs.length ≤ 900000) (hK : 1 ≤ K) (hK2 : K ≤ 1073741824) :
    Calls Try.prog 17 #[v, .int .i64 K] w fun e w' => ∃ b N cc, e = .returned (.tuple #[.slice b N cc, .bool true]) ∧ Ps w' b N cc (xs.take K) ∧ Below w.heap.size w w' := by
  obtain ⟨g, lb, rfl, hen, hit⟩ := h
  obtain ⟨i0, hi0, hz0, hz1', hz2'⟩ := info_parts infoP
  have hnf : ∀ W : World, Sem.run Try.prog (Go.binOp .eql 40 (.func (.func g) #[] lb) .nilFunc) W = .ok (.bool false) W := fun W => by kernel_rfl
  refine (callsIn_wide (n := 9)).1 ?_
  refine callsIn_of_wp_marks Try.func17 rfl trivial ?_ rfl
  simp only [Try.ntmps17, List.size_toArray, List.length_cons, List.length_nil, Nat.reduceAdd, Nat.reduceSub, Array.replicate_succ, Array.replicate_zero, List.push_toArray, List.append_toArray, List.nil_append, List.cons_append]
  refine wpIn_mono (Q := noPanic _) ?_ (noPanic_out _)
  gi_wp2
  refine name_world ?_
  intro Wi hWi
  obtain ⟨M, hM⟩ : ∃ M, M = w.heap.size := ⟨_, rfl⟩
  have bi := two_below w (.cells #[.int .i64 K] 3) (.cells #[.slice none 0 0] 29)
  have e0 : ((w.alloc (.cells #[.int .i64 K] 3)).alloc (.cells #[.slice none 0 0] 29)).heap[w.heap.size]? = some (.cells #[.int .i64 K] 3 (0, 0)) := (Below.heap_alloc _ _ _ (by simp)).trans (heap_alloc_new w _)
  have e1 := two_new w (.cells #[.int .i64 K] 3) (.cells #[.slice none 0 0] 29)
  have hsi : ((w.alloc (.cells #[.int .i64 K] 3)).alloc (.cells #[.slice none 0 0] 29)).heap.size = w.heap.size + 2 := by simp
  rw [← hWi] at bi e0 e1 hsi
  rw [← hM] at e0 e1 hsi ⊢
  have hMi : M + 2 = Wi.heap.size := hsi.symm
  have hMw : w.heap.size ≤ M := by omega
  have hwM : M ≤ w.heap.size := by omega
  clear hM hWi hsi hnf
  refine rangeFunc_iter (by omega) (gf := g) (lb := lb) rfl hen hit
    (fun h1 h2 => h1.trans h2) (knB (by omega)) bi (fun _ => rfl)
    (fun pre V => Br w Wi M (Wi.heap.size + 2 + m) K pre V)
    (fun c pre V => c = .exit 0 ∧ pre.length = K ∧ Bh w Wi M (Wi.heap.size + 2 + m) K pre V) ?hI ?hIx ⟨Fr.refl _ _, e0, ⟨none, 0, e1, World.ownsRow_nil _ _ _ _⟩, by simp; omega⟩ ?round ?done ?stop
  case hI =>
    rintro s A B row ⟨h1, h2, h3, h4⟩ hg hr
    have := (show Bh w Wi M (Wi.heap.size + 2 + m) K s A from ⟨h1, h2, h3⟩).grown (B := Wi.heap.size) (by omega) (by omega) hg hr
    exact ⟨this.1, this.2.1, this.2.2, h4⟩
  case hIx =>
    rintro c s A B row ⟨h1, h2, h3⟩ hg hr
    exact ⟨h1, h2, h3.grown (B := Wi.heap.size) (by omega) (by omega) hg hr⟩
  case stop =>
    rintro D c L V hD ⟨rest, hpre⟩ hne ⟨rfl, hLK, hB⟩ hk
    have hbf : xs.take K = L := by rw [← hpre, List.take_append_of_le_length (by omega), List.take_of_length_le (by omega)]
    have HQ := Lib.hid hB
    clear hB hpre hLK hne
    obtain ⟨hF, hmb, ⟨b, cc, g1, hrow⟩⟩ := HQ.out
    have y1 : V.cell? ⟨M + 1, 0, none⟩ = some (.slice b L.length cc) := (cell_of_row V _ 0 _ _ _ g1).trans (by simp)
    have hps := Ps.ofOwn hrow
    have hbel := Kn.below bi hF
    have HK := Lib.hid (And.intro hk (And.intro hps (And.intro hbel hrow)))
    have HB := Lib.hid hbf
    obtain ⟨N, hN⟩ : ∃ N, N = L.length := ⟨_, rfl⟩
    rw [← hN] at y1
    have HN := Lib.hid hN
    clear hF hmb g1 hrow hps hbel hk hbf HQ hN
    gi_wp2
    obtain ⟨hk, hps, hbel, hrow⟩ := HK.out
    refine ⟨by simp, .inl ⟨_, _, rfl, run_takeDeferred hk, ?_⟩⟩
    have hps2 : Ps (V.putObj D (.deferred none)) b L.length cc L := Ps.ofOwn (hrow.kept (grownBy_putObj' _ D _) (by
      cases hbo : (Value.slice b L.length cc).ownBlock with
      | none => exact .inl rfl
      | some g =>
        refine .inr fun e => ?_
        obtain ⟨cs, hcs⟩ := own_row_cells hrow g hbo
        injection e with e
        subst e
        rw [hcs] at hk
        cases hk))
    refine ⟨_, by simp [results, Try.results17, go_sem], b, N, cc, rfl, ?_, hbel.grown (grownBy_putObj' _ D _) hbel.size (fun k e => by cases e; omega)⟩
    rw [HB.out, HN.out]
    exact hps2
  case done =>
    rintro D V hD ⟨h1, h2, h3, h4⟩ hk
    obtain ⟨L, hL⟩ : ∃ L, L = xs := ⟨_, rfl⟩
    rw [← hL] at h3 h4
    have hbf : xs.take K = L := by rw [List.take_of_length_le (by rw [← hL]; omega), hL]
    have HQ := Lib.hid (show Bh w Wi M (Wi.heap.size + 2 + m) K L V from ⟨h1, h2, h3⟩)
    clear h1 h2 h3 h4 hL
    obtain ⟨hF, hmb, ⟨b, cc, g1, hrow⟩⟩ := HQ.out
    have y1 : V.cell? ⟨M + 1, 0, none⟩ = some (.slice b L.length cc) := (cell_of_row V _ 0 _ _ _ g1).trans (by simp)
    have hps := Ps.ofOwn hrow
    have hbel := Kn.below bi hF
    have HK := Lib.hid (And.intro hk (And.intro hps (And.intro hbel hrow)))
    have HB := Lib.hid hbf
    obtain ⟨N, hN⟩ : ∃ N, N = L.length := ⟨_, rfl⟩
    rw [← hN] at y1
    have HN := Lib.hid hN
    clear hF hmb g1 hrow hps hbel hk hbf HQ hN
    gi_wp2
    obtain ⟨hk, hps, hbel, hrow⟩ := HK.out
    refine ⟨by simp, .inl ⟨_, _, rfl, run_takeDeferred hk, ?_⟩⟩
    have hps2 : Ps (V.putObj D (.deferred none)) b L.length cc L := Ps.ofOwn (hrow.kept (grownBy_putObj' _ D _) (by
      cases hbo : (Value.slice b L.length cc).ownBlock with
      | none => exact .inl rfl
      | some g =>
        refine .inr fun e => ?_
        obtain ⟨cs, hcs⟩ := own_row_cells hrow g hbo
        injection e with e
        subst e
        rw [hcs] at hk
        cases hk))
    refine ⟨_, by simp [results, Try.results17, go_sem], b, N, cc, rfl, ?_, hbel.grown (grownBy_putObj' _ D _) hbel.size (fun k e => by cases e; omega)⟩
    rw [HB.out, HN.out]
    exact hps2
  case round =>
    rintro l' pre x V0 ⟨rest, hpr⟩ hsz0 hi0
    dsimp only [encp]
    have HI0 := Lib.hid hi0
    have hpl : pre.length ≤ 1000000 := by have := congrArg List.length hpr; simp at this; omega
    clear hi0
    gi_wp2
    refine ⟨(Keep.refl _ _ _).alloc _ hsz0, (Fr.refl _ _).alloc _, HI0.out.below ((Below.refl _ V0).alloc (Nat.le_refl _) _), ?_⟩
    rintro V2 hgr hl - hszV hB2
    obtain ⟨QB, hQB⟩ : ∃ QB, QB = V0.heap.size := ⟨_, rfl⟩
    have hq2 : PosAt V2 QB x.1 x.2 := by
      rw [hQB]
      exact (hgr.block _ (by simp) (by intro e; injection e with e; omega)).trans (heap_alloc_new V0 _)
    rw [← hQB]
    have hQM : M + 2 ≤ QB := by omega
    have hlt := hB2.2.2.2
    obtain ⟨b, cc, g1, hrow⟩ := hB2.2.2.1
    have y2 : V2.cell? ⟨M + 1, 0, none⟩ = some (.slice b pre.length cc) := (cell_of_row V2 _ 0 _ _ _ g1).trans (by simp)
    have q2 := hq2.c0
    have q3 := hq2.c1
    have hrow3 := ownsRow_fr hrow ((Fr.refl (fun _ => False) V2).alloc (.cells #[.int .i64 x.1, .int .i64 x.2] EP)) (by simp)
    have hob : ∀ g, (Value.slice b pre.length cc).ownBlock = some g → Wi.heap.size + 2 + m ≤ g := fun g hg => (hrow.lt g hg).1
    have hst : ∀ V4, (V2.alloc (.cells #[.int .i64 x.1, .int .i64 x.2] EP)).grownBy V4 (Value.slice b pre.length cc).ownBlock → V4.heap[M + 1]? = some (.cells #[.slice b pre.length cc] 29 (0, 0)) := fun V4 hg4 =>
      (hg4.block (M + 1) (by have := (Array.getElem?_eq_some_iff.1 g1).1; simp; omega) (by intro e; have := hob _ e.symm; omega)).trans ((Below.heap_alloc _ _ _ (by have := (Array.getElem?_eq_some_iff.1 g1).1; exact this)).trans g1)
    have hst0 : ∀ V4, (V2.alloc (.cells #[.int .i64 x.1, .int .i64 x.2] EP)).grownBy V4 (Value.slice b pre.length cc).ownBlock → V4.heap[M]? = some (.cells #[.int .i64 K] 3 (0, 0)) := fun V4 hg4 =>
      (hg4.block M (by have := (Array.getElem?_eq_some_iff.1 hB2.2.1).1; simp; omega) (by intro e; have := hob _ e.symm; omega)).trans ((Below.heap_alloc _ _ _ (by have := (Array.getElem?_eq_some_iff.1 hB2.2.1).1; exact this)).trans hB2.2.1)
    have HO3 := Lib.hid hob
    have HST := Lib.hid hst
    have HST0 := Lib.hid hst0
    have HR3 := Lib.hid hrow3
    have HS3 := Lib.hid (SrcV.pos V2 x.1 x.2)
    have HP := Lib.hid hB2
    have hszz : Wi.heap.size + 2 + m ≤ V2.heap.size + 1 := by omega
    have HPR := Lib.hid hpr
    clear hB2 g1 hrow hrow3 hob hst hst0 hq2 hgr hl hQB HI0 hpr
    rcases Nat.lt_or_ge (pre.length + 1) K with hlK | hlK
    · have dk : decide ((K : Int) ≤ ((pre.length + 1 : Nat) : Int)) = false := decide_eq_false (by omega)
      have dk2 : decide (K ≤ pre.length + 1) = false := decide_eq_false (by omega)
      have dk3 : decide ((K : Int) ≤ (pre.length : Int) + 1) = false := decide_eq_false (by omega)
      gi_wp2_with (gi_at_builtin; go_must (refine wpListIn_append_srcv _ rfl _ _ 29 rfl (Wi.heap.size + 2 + m) EP i0 (.agg #[.int .i64 0, .int .i64 0]) 2 16 underP hi0 hz0 hz1' hz2' rfl (by decide) (.slice b pre.length cc) pre.length (flat pre) rfl HR3.out (.slice (some ⟨V2.heap.size, 0, none⟩) 1 1) 1 [.int .i64 x.1, .int .i64 x.2] rfl HS3.out (by simp only [maxLen]; omega) (by omega) (by simp; omega) ?_); intro ob oc V4 hown hg hnr; have y4 : V4.cell? ⟨M + 1, 0, none⟩ = some (.slice b pre.length cc) := (cell_of_row V4 _ 0 _ _ _ (HST.out V4 hg)).trans (by simp); have z4 : V4.frozen? ⟨M + 1, 0, none⟩ = false := frozen_of_row V4 _ 0 _ _ (HST.out V4 hg); have n4 : V4.cell? ⟨M, 0, none⟩ = some (.int .i64 K) := (cell_of_row V4 _ 0 _ _ _ (HST0.out V4 hg)).trans (by simp); have HO := Lib.hid (And.intro hown hg); clear hown hg hnr y2 q2 q3)
      obtain ⟨hown, hg⟩ := HO.out
      have hB2 := HP.out
      have g4 := HST.out V4 hg
      have f4 : Fr (fun k => k = M + 1 ∨ (Value.slice b pre.length cc).ownBlock = some k) V2 V4 := Fr.grown ((Fr.refl _ V2).alloc _) hg (fun k e _ => .inr e)
      have f7 := f4.setCell (p := ⟨M + 1, 0, none⟩) (fun _ => .inl rfl) (.slice ob (pre.length + 1) oc)
      have k7 : Kn w V2 (V4.setCell ⟨M + 1, 0, none⟩ (.slice ob (pre.length + 1) oc)) := f7.mono (fun i _ e => by
        show w.heap.size ≤ i
        rcases e with e | e
        · omega
        · have := HO3.out i e; omega)
      have key : ∀ k, k < M + 1 → k < V2.heap.size → (V4.setCell ⟨M + 1, 0, none⟩ (.slice ob (pre.length + 1) oc)).heap[k]? = V2.heap[k]? := fun k hk hk2 => f7.block k hk2 (fun e => by
        rcases e with e | e
        · omega
        · have := HO3.out k e; omega)
      have hll : (pre ++ [x]).length = pre.length + 1 := by simp
      have hgot : GotP (M + 1) (Wi.heap.size + 2 + m) (pre ++ [x]) (V4.setCell ⟨M + 1, 0, none⟩ (.slice ob (pre.length + 1) oc)) := by
        refine ⟨ob, oc, ?_, ?_⟩
        · rw [hll]
          exact (heap_setCell_same V4 (M + 1) 0 _ _ _ g4).trans (by simp)
        · rw [hll, flat_append, flat_one]
          exact ownsRow_fr hown ((Fr.refl (fun k => k = M + 1) V4).setCell (p := ⟨M + 1, 0, none⟩) (fun _ => rfl) _) (fun i hi e => by have := (hown.lt i hi).1; omega)
      have hkeep := Keep.ofFr (lo := Wi.heap.size) (hi := Wi.heap.size + 2 + m) f7 (by omega) (fun i e => by
        rcases e with e | e
        · exact .inl (by omega)
        · exact .inr (HO3.out i e))
      have hmb := (key M (by omega) (Array.getElem?_eq_some_iff.1 hB2.2.1).1).trans hB2.2.1
      exact ⟨hkeep, k7, hB2.1.trans k7, hmb, hgot, by simp; omega⟩
    · have dk : decide ((K : Int) ≤ ((pre.length + 1 : Nat) : Int)) = true := decide_eq_true (by omega)
      have dk2 : decide (K ≤ pre.length + 1) = true := decide_eq_true (by omega)
      have dk3 : decide ((K : Int) ≤ (pre.length : Int) + 1) = true := decide_eq_true (by omega)
      gi_wp2_with (gi_at_builtin; go_must (refine wpListIn_append_srcv _ rfl _ _ 29 rfl (Wi.heap.size + 2 + m) EP i0 (.agg #[.int .i64 0, .int .i64 0]) 2 16 underP hi0 hz0 hz1' hz2' rfl (by decide) (.slice b pre.length cc) pre.length (flat pre) rfl HR3.out (.slice (some ⟨V2.heap.size, 0, none⟩) 1 1) 1 [.int .i64 x.1, .int .i64 x.2] rfl HS3.out (by simp only [maxLen]; omega) (by omega) (by simp; omega) ?_); intro ob oc V4 hown hg hnr; have y4 : V4.cell? ⟨M + 1, 0, none⟩ = some (.slice b pre.length cc) := (cell_of_row V4 _ 0 _ _ _ (HST.out V4 hg)).trans (by simp); have z4 : V4.frozen? ⟨M + 1, 0, none⟩ = false := frozen_of_row V4 _ 0 _ _ (HST.out V4 hg); have n4 : V4.cell? ⟨M, 0, none⟩ = some (.int .i64 K) := (cell_of_row V4 _ 0 _ _ _ (HST0.out V4 hg)).trans (by simp); have HO := Lib.hid (And.intro hown hg); clear hown hg hnr y2 q2 q3)
      obtain ⟨hown, hg⟩ := HO.out
      have hB2 := HP.out
      have g4 := HST.out V4 hg
      have f4 : Fr (fun k => k = M + 1 ∨ (Value.slice b pre.length cc).ownBlock = some k) V2 V4 := Fr.grown ((Fr.refl _ V2).alloc _) hg (fun k e _ => .inr e)
      have f7 := f4.setCell (p := ⟨M + 1, 0, none⟩) (fun _ => .inl rfl) (.slice ob (pre.length + 1) oc)
      have k7 : Kn w V2 (V4.setCell ⟨M + 1, 0, none⟩ (.slice ob (pre.length + 1) oc)) := f7.mono (fun i _ e => by
        show w.heap.size ≤ i
        rcases e with e | e
        · omega
        · have := HO3.out i e; omega)
      have key : ∀ k, k < M + 1 → k < V2.heap.size → (V4.setCell ⟨M + 1, 0, none⟩ (.slice ob (pre.length + 1) oc)).heap[k]? = V2.heap[k]? := fun k hk hk2 => f7.block k hk2 (fun e => by
        rcases e with e | e
        · omega
        · have := HO3.out k e; omega)
      have hll : (pre ++ [x]).length = pre.length + 1 := by simp
      have hgot : GotP (M + 1) (Wi.heap.size + 2 + m) (pre ++ [x]) (V4.setCell ⟨M + 1, 0, none⟩ (.slice ob (pre.length + 1) oc)) := by
        refine ⟨ob, oc, ?_, ?_⟩
        · rw [hll]
          exact (heap_setCell_same V4 (M + 1) 0 _ _ _ g4).trans (by simp)
        · rw [hll, flat_append, flat_one]
          exact ownsRow_fr hown ((Fr.refl (fun k => k = M + 1) V4).setCell (p := ⟨M + 1, 0, none⟩) (fun _ => rfl) _) (fun i hi e => by have := (hown.lt i hi).1; omega)
      have hkeep := Keep.ofFr (lo := Wi.heap.size) (hi := Wi.heap.size + 2 + m) f7 (by omega) (fun i e => by
        rcases e with e | e
        · exact .inl (by omega)
        · exact .inr (HO3.out i e))
      have hmb := (key M (by omega) (Array.getElem?_eq_some_iff.1 hB2.2.1).1).trans hB2.2.1
      exact ⟨hkeep, rfl, by simp; omega, hB2.1.trans k7, hmb, hgot⟩

theorem law_same (l c y q l' c' y' q' : Int) (j j' o o' : Bool) (w : World) : Calls Try.prog 13 #[mvv l c y j q, .bool o, mvv l' c' y' j' q', .bool o'] w fun e w' => e = .returned (.bool (decide ((l = l' ∧ c = c' ∧ y = y' ∧ j = j' ∧ q = q') ∧ o = o'))) ∧ Below w.heap.size w w' := by
  have he := fun W => eq_mv l c y q l' c' y' q' j j' W
  have hd : decide ((l = l' ∧ c = c' ∧ y = y' ∧ j = j' ∧ q = q') ∧ o = o') = (decide (l = l' ∧ c = c' ∧ y = y' ∧ j = j' ∧ q = q') && (o == o')) := by
    cases o <;> cases o' <;> simp
  rw [hd]
  generalize decide (l = l' ∧ c = c' ∧ y = y' ∧ j = j' ∧ q = q') = d at *
  clear hd
  cases d
  · go_enter Try.func13, Try.ntmps13
    go_wp2
    go_ret
    exact ⟨rfl, two_below _ _ _⟩
  · go_enter Try.func13, Try.ntmps13
    go_wp2
    go_ret
    exact ⟨rfl, two_below _ _ _⟩

theorem same_same (r : R) (w : World) : Calls Try.prog 13 #[.agg #[.int .i64 r.l, .int .i64 r.c, .int .i64 r.way, .bool r.j, .int .i64 r.want], .bool r.ok, .agg #[.int .i64 r.l, .int .i64 r.c, .int .i64 r.way, .bool r.j, .int .i64 r.want], .bool r.ok] w
    fun e w' => e = .returned (.bool true) ∧ Below w.heap.size w w' := by
  have h := law_same r.l r.c r.way r.want r.l r.c r.way r.want r.j r.j r.ok r.ok w
  rw [decide_eq_true (by simp)] at h
  exact h

abbrev exl : List ByteArray := [⟨#[65, 46, 32, 66]⟩, ⟨#[]⟩, ⟨#[99]⟩]
theorem exl_size (z : Nat) (hz : 4 ≤ z) : ∀ s ∈ exl, s.size ≤ z := by
  intro s hs
  simp only [exl, List.mem_cons, List.not_mem_nil, or_false] at hs
  rcases hs with rfl | rfl | rfl
  · exact hz
  · exact Nat.le_trans (by decide) hz
  · exact Nat.le_trans (by decide) hz
set_option maxHeartbeats 4000000 in
theorem known_any (w : World) : Calls Try.prog 8 #[] w fun e w' => e = .returned (.bool true) ∧ Below w.heap.size w w' := by
  obtain ⟨X, hX⟩ : ∃ X, X = w.alloc (.cells #[.string ⟨#[65, 46, 32, 66]⟩, .string ⟨#[]⟩, .string ⟨#[99]⟩] 9) := ⟨_, rfl⟩
  have hb0 : Below w.heap.size w X := by rw [hX]; exact (Below.refl _ w).alloc (Nat.le_refl _) _
  have hs0 : Ss X (some ⟨w.heap.size, 0, none⟩) 3 3 exl := by
    rw [hX]
    exact SrcV.lit w #[.string ⟨#[65, 46, 32, 66]⟩, .string ⟨#[]⟩, .string ⟨#[99]⟩] 9 3 rfl (by simp [Value.oneCell']) (by simp [maxLen])
  have HX := Lib.hid hX
  have HS := Lib.hid hs0
  have HB := Lib.hid hb0
  have c1 := fun W (hW : Below X.heap.size X W) => next_any _ 3 3 exl 0 0 1 false W (SrcV.below HS.out hW) (exl_size _ (by omega)) (by omega) (by omega)
  have c2 := fun W (hW : Below X.heap.size X W) => snext_any _ 3 3 exl 0 0 1 false W (SrcV.below HS.out hW) (exl_size _ (by omega)) (by omega) (Nat.le_of_ble_eq_true (by kernel_rfl)) (by omega)
  have c3 := fun W (hW : Below X.heap.size X W) => back_any _ 3 3 exl 2 0 1 W (SrcV.below HS.out hW) (exl_size _ (by omega)) (by omega) (by omega)
  have c4 := fun W (hW : Below X.heap.size X W) => sback_any _ 3 3 exl 0 0 1 W (SrcV.below HS.out hW) (exl_size _ (by omega)) (by omega) (Nat.le_of_ble_eq_true (by kernel_rfl)) (by omega)
  rw [show pnR exl 0 0 1 false = ⟨1, 0, 0, true, -1, true⟩ from by kernel_rfl] at c1
  rw [show snR exl 0 0 1 false = ⟨0, 3, 0, true, -1, true⟩ from by kernel_rfl] at c2
  rw [show pbR exl 2 0 1 = ⟨1, 0, 0, true, -1, true⟩ from by kernel_rfl] at c3
  rw [show sbR exl 0 0 1 = ⟨0, 0, 0, false, 0, false⟩ from by kernel_rfl] at c4
  have he1 := fun W => eq_mv 1 0 0 (-1) 1 0 0 (-1) true true W
  have he2 := fun W => eq_pos 1 0 1 0 W
  simp only [decide_true, Bool.and_self, and_self] at he1 he2
  clear hX hs0 hb0
  go_enter Try.func8, Try.ntmps8
  go_upto_region 2 with fail
  rw [← HX.out]
  have D := Lib.hid (Below.refl X.heap.size X)
  go_wp2_with fail
  refine (c1 _ D.out).mono ?_
  rintro e w1 ⟨rfl, hb⟩
  have D := Lib.hid (below_on D.out hb)
  clear hb c1
  go_upto_region 3 with fail
  obtain ⟨x1, hx1⟩ : ∃ x1, x1 = w1.alloc (.cells #[.int .i64 1, .int .i64 0, .int .i64 0, .bool true, .int .i64 (-1)] 32) := ⟨_, rfl⟩
  have hA : Below w1.heap.size w1 x1 := by rw [hx1]; exact (Below.refl _ w1).alloc (Nat.le_refl _) _
  have hV := MvAt.new w1 1 0 0 (-1) true
  rw [← hx1] at hV ⊢
  have gg_D := D.out.size
  have D := Lib.hid (below_on D.out hA)
  obtain ⟨b_A, hbf⟩ : ∃ b, b = w1.heap.size := ⟨_, rfl⟩
  rw [← hbf] at hV ⊢
  have g_A_D := Lib.hid (show X.heap.size ≤ b_A by rw [hbf]; exact gg_D)
  clear gg_D
  have A := Lib.hid hV
  clear hV hA hx1 hbf
  have c_A := A.out
  have A0 := c_A.c0
  have A1 := c_A.c1
  have A2 := c_A.c2
  have A3 := c_A.c3
  have A4 := c_A.c4
  clear c_A
  go_wp2_with fail
  refine (c2 _ D.out).mono ?_
  rintro e w2 ⟨rfl, hb⟩
  clear A0 A1 A2 A3 A4
  have D := Lib.hid (below_on D.out hb)
  have A := Lib.hid (A.out.below hb A.out.lt)
  clear hb c2
  go_upto_region 4 with fail
  obtain ⟨x2, hx2⟩ : ∃ x2, x2 = w2.alloc (.cells #[.int .i64 0, .int .i64 3, .int .i64 0, .bool true, .int .i64 (-1)] 32) := ⟨_, rfl⟩
  have hA : Below w2.heap.size w2 x2 := by rw [hx2]; exact (Below.refl _ w2).alloc (Nat.le_refl _) _
  have hV := MvAt.new w2 0 3 0 (-1) true
  rw [← hx2] at hV ⊢
  have lt_A := A.out.lt
  have gg_D := D.out.size
  have D := Lib.hid (below_on D.out hA)
  have A := Lib.hid (A.out.below hA A.out.lt)
  obtain ⟨b_B, hbf⟩ : ∃ b, b = w2.heap.size := ⟨_, rfl⟩
  rw [← hbf] at hV ⊢
  have n_A_B := Lib.hid (show b_A ≠ b_B by omega)
  clear lt_A
  have g_B_D := Lib.hid (show X.heap.size ≤ b_B by rw [hbf]; exact gg_D)
  clear gg_D
  have B := Lib.hid hV
  clear hV hA hx2 hbf
  have c_A := A.out
  have A0 := c_A.c0
  have A1 := c_A.c1
  have A2 := c_A.c2
  have A3 := c_A.c3
  have A4 := c_A.c4
  clear c_A
  have c_B := B.out
  have B0 := c_B.c0
  have B1 := c_B.c1
  have B2 := c_B.c2
  have B3 := c_B.c3
  have B4 := c_B.c4
  clear c_B
  go_wp2_with fail
  refine (c3 _ D.out).mono ?_
  rintro e w3 ⟨rfl, hb⟩
  clear A0 A1 A2 A3 A4 B0 B1 B2 B3 B4
  have D := Lib.hid (below_on D.out hb)
  have A := Lib.hid (A.out.below hb A.out.lt)
  have B := Lib.hid (B.out.below hb B.out.lt)
  clear hb c3
  go_upto_region 5 with fail
  obtain ⟨x3, hx3⟩ : ∃ x3, x3 = w3.alloc (.cells #[.int .i64 1, .int .i64 0, .int .i64 0, .bool true, .int .i64 (-1)] 32) := ⟨_, rfl⟩
  have hA : Below w3.heap.size w3 x3 := by rw [hx3]; exact (Below.refl _ w3).alloc (Nat.le_refl _) _
  have hV := MvAt.new w3 1 0 0 (-1) true
  rw [← hx3] at hV ⊢
  have lt_A := A.out.lt
  have lt_B := B.out.lt
  have gg_D := D.out.size
  have D := Lib.hid (below_on D.out hA)
  have A := Lib.hid (A.out.below hA A.out.lt)
  have B := Lib.hid (B.out.below hA B.out.lt)
  obtain ⟨b_C, hbf⟩ : ∃ b, b = w3.heap.size := ⟨_, rfl⟩
  rw [← hbf] at hV ⊢
  have n_A_C := Lib.hid (show b_A ≠ b_C by omega)
  clear lt_A
  have n_B_C := Lib.hid (show b_B ≠ b_C by omega)
  clear lt_B
  have g_C_D := Lib.hid (show X.heap.size ≤ b_C by rw [hbf]; exact gg_D)
  clear gg_D
  have C := Lib.hid hV
  clear hV hA hx3 hbf
  have c_A := A.out
  have A0 := c_A.c0
  have A1 := c_A.c1
  have A2 := c_A.c2
  have A3 := c_A.c3
  have A4 := c_A.c4
  clear c_A
  have c_B := B.out
  have B0 := c_B.c0
  have B1 := c_B.c1
  have B2 := c_B.c2
  have B3 := c_B.c3
  have B4 := c_B.c4
  clear c_B
  have c_C := C.out
  have C0 := c_C.c0
  have C1 := c_C.c1
  have C2 := c_C.c2
  have C3 := c_C.c3
  have C4 := c_C.c4
  clear c_C
  go_wp2_with fail
  refine (c4 _ D.out).mono ?_
  rintro e w4 ⟨rfl, hb⟩
  clear A0 A1 A2 A3 A4 B0 B1 B2 B3 B4 C0 C1 C2 C3 C4
  have D := Lib.hid (below_on D.out hb)
  have A := Lib.hid (A.out.below hb A.out.lt)
  have B := Lib.hid (B.out.below hb B.out.lt)
  have C := Lib.hid (C.out.below hb C.out.lt)
  clear hb c4
  go_upto_region 6 with fail
  obtain ⟨x4, hx4⟩ : ∃ x4, x4 = w4.alloc (.cells #[.int .i64 0, .int .i64 0, .int .i64 0, .bool false, .int .i64 0] 32) := ⟨_, rfl⟩
  have hA : Below w4.heap.size w4 x4 := by rw [hx4]; exact (Below.refl _ w4).alloc (Nat.le_refl _) _
  have hV := MvAt.new w4 0 0 0 0 false
  rw [← hx4] at hV ⊢
  have lt_A := A.out.lt
  have lt_B := B.out.lt
  have lt_C := C.out.lt
  have gg_D := D.out.size
  have D := Lib.hid (below_on D.out hA)
  have A := Lib.hid (A.out.below hA A.out.lt)
  have B := Lib.hid (B.out.below hA B.out.lt)
  have C := Lib.hid (C.out.below hA C.out.lt)
  obtain ⟨b_E, hbf⟩ : ∃ b, b = w4.heap.size := ⟨_, rfl⟩
  rw [← hbf] at hV ⊢
  have n_A_E := Lib.hid (show b_A ≠ b_E by omega)
  clear lt_A
  have n_B_E := Lib.hid (show b_B ≠ b_E by omega)
  clear lt_B
  have n_C_E := Lib.hid (show b_C ≠ b_E by omega)
  clear lt_C
  have g_E_D := Lib.hid (show X.heap.size ≤ b_E by rw [hbf]; exact gg_D)
  clear gg_D
  have E := Lib.hid hV
  clear hV hA hx4 hbf
  have c_A := A.out
  have A0 := c_A.c0
  have A1 := c_A.c1
  have A2 := c_A.c2
  have A3 := c_A.c3
  have A4 := c_A.c4
  clear c_A
  have c_B := B.out
  have B0 := c_B.c0
  have B1 := c_B.c1
  have B2 := c_B.c2
  have B3 := c_B.c3
  have B4 := c_B.c4
  clear c_B
  have c_C := C.out
  have C0 := c_C.c0
  have C1 := c_C.c1
  have C2 := c_C.c2
  have C3 := c_C.c3
  have C4 := c_C.c4
  clear c_C
  have c_E := E.out
  have E0 := c_E.c0
  have E1 := c_E.c1
  have E2 := c_E.c2
  have E3 := c_E.c3
  have E4 := c_E.c4
  clear c_E
  go_wp2
  go_ret
  exact ⟨rfl, below_on HB.out D.out⟩

end Go.Proofs.Ytpdbfdhfonfbeaa.Pa
