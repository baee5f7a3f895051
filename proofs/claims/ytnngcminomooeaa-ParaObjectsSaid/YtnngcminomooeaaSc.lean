/-
  Package span: Cells.
-/
import Derived.Test.YtnngcminomooeaaSk
import Derived.StillTailTactics
set_option linter.unusedVariables false
set_option linter.unusedSimpArgs false
set_option maxRecDepth 100000
namespace Go.Proofs.Ytnngcminomooeaa.Vk
open Go Go.RowKit
/-- A region that draws its order and only reads, in a round of a range over a function: one walk, in the order of the text. -/
theorem wpIn_round_quiet {lx n : Nat} {P : Program} {id : Nat} {Q : Exit → Act → World → Prop} {a : Act} {w : World} {l : List Oper} (hm : P.follows .mixedOrders = true)
    (hd : (l.toArray.all fun o => match o.op with | .defer _ => false | _ => true) = true) (hQ : ¬ LetsOut Q) (hB : Region.lexB .any l.toArray = true)
    (h : wpQuiet P l.toArray (fun w' => ∃ n, w' = w.drewN n) (fun a' => ∀ w', (∃ n, w' = w.drewN n) → Q .normal a' w') l a) : (Code.region id l.toArray true).wpIn (Fence.wide.inRound lx) n P Q a w := by
  simp only [Region.lexB, Bool.and_eq_true] at hB
  refine wpIn_region_any hm (anyIn_of_any (fun i o ho c hc => by
    have := Array.all_eq_true.1 hd
    obtain ⟨hi, he⟩ := Array.getElem?_eq_some_iff.1 ho
    have h2 := this i hi
    rw [he] at h2
    simp [hc] at h2) hQ _ _ _ _ ?_)
  refine wpAny_of_quiet (C := fun w' => ∃ n, w' = w.drewN n) (Q := fun a' => ∀ w', (∃ n, w' = w.drewN n) → Q .normal a' w') (fun _ w' hw' h => h w' hw') _ _ _ _ ⟨1, rfl⟩ ?_
  have := wpAnyQ_lex (C := fun w' => ∃ n, w' = w.drewN n) (md := .any) hB.1 l.toArray.toList 0 (Array.replicate l.toArray.size false) a (by simp) (by simpa using hB.2) (by simpa using h)
  simpa using this
theorem opIn_of_st {lx n : Nat} {P : Program} {ops : Array Oper} {w : World} {i : Nat} {L : Act → Prop} {K : Act → World → Prop} {Q : Exit → Act → World → Prop} {a : Act} (hd : ∀ (j : Nat) (o : Oper), ops[j]? = some o → ∀ c, o.op ≠ .defer c)
    (hK : ∀ a', L a' → K a' w) (h : stOp P ops w i L a) : wpOpIn (Fence.wide.inRound lx) n P ops Q i K a w := by
  unfold stOp at h
  unfold wpOpIn
  cases ho : ops[i]? with
  | none => rw [ho] at h; exact hK _ h
  | some o =>
    rw [ho] at h
    simp only at h ⊢
    split
    · rename_i hw
      rw [if_pos hw] at h
      exact Oper.round_of (hd i o ho) (fun _ _ h => h) (Oper.wp_of_still hK h)
    · rename_i hw
      rw [if_neg hw] at h
      exact ⟨fun _ _ => trivial, hK _ h⟩
theorem anyIn_of_head {lx n : Nat} {P : Program} {md : Region.Mode} {ops : Array Oper} {w : World} {k g : Nat} {L : Array Bool → Act → Prop} {Q : Exit → Act → World → Prop} (hd : ∀ (j : Nat) (o : Oper), ops[j]? = some o → ∀ c, o.op ≠ .defer c)
    (hL : ∀ listed a, L listed a → wpAnyIn (Fence.wide.inRound lx) n P md ops Q g listed a w) :
    ∀ (f : Nat) (listed : Array Bool) (a : Act), wpAnyL P md ops w k L f listed a → wpAnyIn (Fence.wide.inRound lx) n P md ops Q (f + g) listed a w
  | 0, listed, a, h => by rw [Nat.zero_add]; exact hL _ _ h
  | f + 1, listed, a, h => by
    rw [show f + 1 + g = (f + g) + 1 by omega]
    exact ⟨fun h0 => absurd h0 h.1, fun i hi => opIn_of_st hd (fun a' h' => anyIn_of_head hd hL f _ a' h') (h.2 i hi).2⟩
theorem anyIn_of_seq {F : Fence} {n : Nat} {P : Program} {md : Region.Mode} {ops : Array Oper} {Q : Exit → Act → World → Prop} : ∀ (l : List Oper) (k : Nat) (listed : Array Bool) (a : Act) (w : World), (∀ j, l[j]? = ops[k + j]?) →
    Region.seqB md ops l.length k listed = true → wpListIn F n P ops Q l a w → wpAnyIn F n P md ops Q l.length listed a w
  | [], _, _, _, _, _, hB, h => ⟨by simpa [Region.seqB] using hB, h⟩
  | o :: l, k, listed, a, w, hl, hB, h => by
    have h0 : ops[k]? = some o := by simpa using (hl 0).symm
    simp only [List.length_cons, Region.seqB, Bool.and_eq_true, decide_eq_true_eq] at hB
    refine ⟨fun h1 => (by rw [hB.1] at h1; cases h1), fun i hi => ?_⟩
    rw [hB.1] at hi
    have hik : i = k := by simpa using hi
    subst hik
    have hw : wpOpIn F n P ops Q i (wpListIn F n P ops Q l) a w := by unfold wpOpIn; simp only [h0]; exact h
    exact wpOpIn_mono (fun a' w' h' => anyIn_of_seq l (i + 1) _ a' w' (fun j => by have := hl (j + 1); simpa [Nat.add_assoc, Nat.add_comm 1 j] using this) hB.2 h') hw
/-- A region in a round: what only reads first, in whatever order; then the rest, in the order of the text, with the round's own calls (a yield). -/
theorem wpIn_round_head {lx n : Nat} {P : Program} {id : Nat} {Q : Exit → Act → World → Prop} {a : Act} {w : World} {l : List Oper} (k : Nat) (hm : P.follows .mixedOrders = true)
    (hd : (l.toArray.all fun o => match o.op with | .defer _ => false | _ => true) = true) (hB : Region.lexTailB .any l.toArray k = true)
    (h : wpStill P l.toArray w.drew (fun a' => wpListIn (Fence.wide.inRound lx) n P l.toArray Q (l.drop k) a' w.drew) (l.take k) a) : (Code.region id l.toArray true).wpIn (Fence.wide.inRound lx) n P Q a w := by
  simp only [Region.lexTailB, Bool.and_eq_true, decide_eq_true_eq] at hB
  obtain ⟨⟨⟨⟨hsel, hn⟩, hs⟩, hc⟩, hlex⟩ := hB
  have hn' : k < l.length := by simpa using hn
  have htl : (l.take k).length = k := by simp; omega
  have hdl : (l.drop k).length = l.toArray.size - k := by simp
  have inv0 : HeadInv .any l.toArray k (Array.replicate l.toArray.size false) :=
    ⟨by simp, fun j oj _ hl => (by rw [getD_replicate_false] at hl; cases hl), fun t _ ht => getD_in (by simpa using ht) (getD_replicate_false _ _)⟩
  have H := wpAnyL_lex (md := .any) (g := l.toArray.size - k) hsel hs hc hn (l.take k) 0 _ a (fun j hj => by
    have hj' : j < k := by rw [htl] at hj; exact hj
    simp [hj']) (by simpa using htl) inv0 (by rw [htl]; exact hlex) h
  have hdd : ∀ (j : Nat) (o : Oper), l.toArray[j]? = some o → ∀ c, o.op ≠ .defer c := fun i o ho c hc => by
    have := Array.all_eq_true.1 hd
    obtain ⟨hi, he⟩ := Array.getElem?_eq_some_iff.1 ho
    have h2 := this i hi
    rw [he] at h2
    simp [hc] at h2
  refine wpIn_region_any hm ?_
  have := anyIn_of_head (lx := lx) (n := n) (Q := Q) (g := l.toArray.size - k) hdd (fun listed a' hL => by
    have := anyIn_of_seq (F := Fence.wide.inRound lx) (n := n) (md := .any) (Q := Q) (l.drop k) k listed a' w.drew (fun j => by simp [List.getElem?_drop]) (by rw [hdl]; exact hL.1) hL.2
    rwa [hdl] at this) _ _ _ H
  rw [htl, show k + (l.toArray.size - k) = l.toArray.size by omega] at this
  exact this
end Go.Proofs.Ytnngcminomooeaa.Vk
namespace Go.Proofs.Ytnngcminomooeaa.So
open Go Go.RowKit Go.Proofs.Ytnngcminomooeaa.Vk Go.Proofs.Ytnngcminomooeaa.Str Go.Proofs.Ytnngcminomooeaa.Ln Go.Proofs.Ytnngcminomooeaa.Cl Go.Shelf
attribute [local go_sem] Oper.semAt_some

theorem Fr.keep {S : Nat → Prop} {a b : Nat} {V V' : World} (h : Fr (fun k => S k ∨ a ≤ k) V V') {m : Nat} (hk : Keep b (b + m) V V') {j : Nat} (hj : j ≤ m) : Fr (fun k => (S k ∨ (a ≤ k ∧ k < b)) ∨ b + j ≤ k) V V' :=
  ⟨h.os, h.tape, h.output, h.size, fun k hlt hn => by
    by_cases hb : b ≤ k ∧ k < b + m
    · exact hk.same k hb.1 hb.2
    · refine h.block k hlt (fun e => e.elim (fun e => hn (.inl (.inl e))) (fun e => ?_))
      by_cases hkb : k < b
      · exact hn (.inl (.inr ⟨e, hkb⟩))
      · exact hn (.inr (by omega))⟩
theorem own_heap {α : Type} {B k : Nat} (hk : k < B) (f : List α → Obj) : OwnFrom B (fun pre (V : World) => V.heap[k]? = some (f pre)) :=
  fun s A B' row hs hg hr => (hg.block _ (Array.getElem?_eq_some_iff.1 hs).1 (fun e => by have := (hr _ e.symm).1; omega)).trans hs
theorem Keep.ofBelow {lo hi : Nat} {A B : World} (h : Below A.heap.size A B) (hh : hi ≤ A.heap.size) : Keep lo hi A B := ⟨h.size, fun k _ hk => h.block k (by omega)⟩

abbrev Cell : Type := (Nat × Nat) × UInt8
/-- The bytes of a line with their places. -/
def lcell (x : Nat × ByteArray) : List Cell := (List.range x.2.size).map fun c => ((x.1, c), x.2.data.toList.getD c 0)
theorem lcell_length (x : Nat × ByteArray) : (lcell x).length = x.2.size := by simp [lcell]
theorem lcell_get (i : Nat) (s : ByteArray) (j : Nat) (h : j < s.size) : (lcell (i, s))[j]? = some ((i, j), s[j]) := by
  unfold lcell
  rw [List.getElem?_map, List.getElem?_range h]
  simp only [Option.map_some, Option.some.injEq, Prod.mk.injEq, true_and]
  rw [List.getD_eq_getElem?_getD, List.getElem?_eq_getElem (by rw [size_str]; exact h)]; rfl
/-- All bytes of some lines. -/
def cells (xs : List (Nat × ByteArray)) : List Cell := xs.flatMap lcell
theorem cells_snoc (xs : List (Nat × ByteArray)) (x : Nat × ByteArray) : cells (xs ++ [x]) = cells xs ++ lcell x := by simp [cells]
theorem cells_step {all pre rest : List (Nat × ByteArray)} {i : Nat} {s : ByteArray} (h : all = pre ++ (i, s) :: rest) (j : Nat) (hj : j < s.size) :
    (∃ r, cells all = (cells pre ++ (lcell (i, s)).take j) ++ ((i, j), s[j]) :: r) ∧ (lcell (i, s)).take (j + 1) = (lcell (i, s)).take j ++ [((i, j), s[j])] := by
  have hl : j < (lcell (i, s)).length := by rw [lcell_length]; exact hj
  have hx : (lcell (i, s))[j] = ((i, j), s[j]) := by
    have := lcell_get i s j hj
    rw [List.getElem?_eq_getElem hl] at this
    simpa using this
  refine ⟨⟨(lcell (i, s)).drop (j + 1) ++ cells rest, ?_⟩, by rw [List.take_succ_eq_append_getElem hl, hx]⟩
  have h1 : lcell (i, s) = (lcell (i, s)).take j ++ ((i, j), s[j]) :: (lcell (i, s)).drop (j + 1) := by
    conv => lhs; rw [← List.take_append_drop j (lcell (i, s)), List.drop_eq_getElem_cons hl, hx]
  rw [h]
  unfold cells
  rw [List.flatMap_append, List.flatMap_cons]
  conv => lhs; rw [h1]
  simp

def encc (x : Cell) : Array Value := #[.agg #[.int .i64 x.1.1, .int .i64 x.1.2], .int .u8 x.2.toNat]

theorem cells_new (a : Option Addr) (n c : Nat) (ls : List ByteArray) (w : World) (h : Ss w a n c ls) (hn : n ≤ 1000000) : Calls Try.prog 39 #[.slice a n c] w fun e w' =>
    ∃ bx ob oc, e = .returned (.func (.func 46) #[] #[.pointer (some ⟨bx, 0, none⟩)]) ∧ w'.cell? ⟨bx, 0, none⟩ = some (.slice ob n oc) ∧ Ss w' ob n oc ls ∧ Below w.heap.size w w' := by
  obtain ⟨i0, hi0, hz0, hz1, hz2⟩ := info_parts infoS
  have hlen := h.length
  have HH := Lib.hid h
  clear h
  go_enter Try.func39, Try.ntmps39
  go_wp2_with (at_builtin; go_must (refine append_srcv _ rfl _ _ 22 rfl w.heap.size ES i0 (.string ⟨#[]⟩) 1 16 underS hi0 hz0 hz1 hz2 rfl (by decide) _ 0 [] rfl (World.ownsRow_nil w w.heap.size ES 1) _ n (ls.map .string) rfl HH.out (by simp only [maxLen]; omega) (by omega) (Nat.le_refl _) ?_); intro ob oc w2 hown hg hnr; have HO := Lib.hid (And.intro hown hg); clear hown hg hnr)
  go_ret
  obtain ⟨hown, hg⟩ := HO.out
  simp only [Nat.zero_add, List.nil_append] at hown ⊢
  have hf2 : Fr (fun _ => False) w w2 := (Fr.refl _ w).grown hg (by intro k hk; simp [Value.ownBlock, Act.eval] at hk)
  have hb2 : Below w.heap.size w w2 := hf2.below (Nat.le_refl _) (by simp)
  have hss : Ss w2 ob n oc ls := SrcV.ofOwn hown (one_cells _)
  exact ⟨w2.heap.size, ob, oc, rfl, (cell_of_row _ _ 0 _ _ _ (heap_alloc_new w2 _)).trans (by simp), SrcV.below hss ((Below.refl _ w2).alloc (Nat.le_refl _) _), hb2.alloc hb2.size _⟩

set_option maxHeartbeats 4000000 in
/-- The iterator has its contract. -/
theorem cells_iter {a : Option Addr} {n c : Nat} {ls : List ByteArray} (w : World) (bx : Nat) (h : Ss w a n c ls) (hs : ∀ s ∈ ls, s.size ≤ 140737488355328)
    (hbx : w.cell? ⟨bx, 0, none⟩ = some (.slice a n c)) (S : Nat → Prop) (hSx : ¬ S bx) (hSa : 0 < n → ∀ b o, a = some ⟨b, o, none⟩ → ¬ S b) (hSw : ∀ k, S k → k < w.heap.size) :
    Iter Try.prog 46 #[.pointer (some ⟨bx, 0, none⟩)] encc 6 (fun W W' => Fr (fun k => S k ∨ w.heap.size ≤ k) W W') (cells (enr ls 0 n)) w := fun l J Jx W hW hJ hJx hY hj0 => by
  have hlen := h.length
  have hn := h.le63
  have hws := hW.size
  have hbxw : bx < w.heap.size := World.block_lt_of_cell? w _ hbx
  have hbx' := cell_one (cell_later hW hbx) (.cells #[.func (.yield l) #[] #[]] 81)
  have hw1 : IntKind.i64.wrap ((n : Int) - 1) = (n : Int) - 1 := by rw [IntKind.wrap_i64]; omega
  have H0 := Lib.hid (And.intro h hbx)
  have hmx : Try.prog.follows .mixedOrders = true := by kernel_rfl
  clear h hbx
  refine callsIn_of_wp_marks Try.func46 rfl trivial ?_ rfl
  simp only [Try.ntmps46, List.size_toArray, List.length_cons, List.length_nil, Nat.reduceAdd, Nat.reduceSub, Array.replicate_succ, Array.replicate_zero, List.push_toArray, List.append_toArray, List.nil_append, List.cons_append]
  refine wpIn_mono (Q := noPanic _) ?_ (noPanic_out _)
  gi_wp2_with (refine ⟨trivial, ?_⟩; gi_at_call 47; refine (callsIn_wide.2 (rows_new _ _ _ _ _ _)).mono ?_; rintro e w' ⟨rfl, rfl⟩)
  refine name_world ?_
  intro Wi hWi
  obtain ⟨hsi, e0, e1, e2, e3, bi⟩ := four_rows W (.cells #[.func (.yield l) #[] #[]] 81) (.cells #[.slice a n c] 22) (.cells #[.int .i64 0] 3) (.cells #[.int .i64 ((n : Int) - 1)] 3)
  rw [← hWi] at hsi e0 e1 e2 e3 bi
  have c1 : Wi.cell? ⟨W.heap.size + 1, 0, none⟩ = some (.slice a n c) := (cell_of_row Wi _ 0 _ _ _ e1).trans (by simp)
  have c2 : Wi.cell? ⟨W.heap.size + 2, 0, none⟩ = some (.int .i64 ((0 : Nat) : Int)) := (cell_of_row Wi _ 0 _ _ _ e2).trans (by simp)
  have c3 : Wi.cell? ⟨W.heap.size + 3, 0, none⟩ = some (.int .i64 (((0 : Nat) : Int) + n - 1)) := (cell_of_row Wi _ 0 _ _ _ e3).trans (by simp)
  have hbwi : Below w.heap.size w Wi := hW.trans (bi.mono hws)
  have hji : J [] Wi := by rw [hWi]; exact hJ.alloc _ (hJ.alloc _ (hJ.alloc _ (hJ.alloc _ hj0)))
  have hblk : ∀ b o, a = some ⟨b, o, none⟩ → 0 < n → b < w.heap.size := fun b o e h0 => by
    subst e
    exact SrcV.blkLt H0.out.1 (by omega) b rfl
  have iter := rows_iter Wi (W.heap.size + 1) (W.heap.size + 2) (W.heap.size + 3) 0 n (SrcV.below H0.out.1 hbwi) (by omega) c1 c2 c3 (fun k => S k ∨ (w.heap.size ≤ k ∧ k < W.heap.size))
    (fun e => e.elim (fun e => by have := hSw _ e; omega) (fun e => by omega)) (fun e => e.elim (fun e => by have := hSw _ e; omega) (fun e => by omega)) (fun e => e.elim (fun e => by have := hSw _ e; omega) (fun e => by omega))
    (fun h0 b o e k => k.elim (hSa h0 b o e) (fun k => by have := hblk b o e h0; omega))
  have HBI := Lib.hid (And.intro hbwi bi)
  clear c1 c2 c3 e1 e2 e3 hbwi hWi hbx'
  refine rangeFunc_iter (by omega) (gf := 51) (lb := #[.pointer (some ⟨W.heap.size + 2, 0, none⟩), .pointer (some ⟨W.heap.size + 3, 0, none⟩), .pointer (some ⟨W.heap.size + 1, 0, none⟩)]) rfl (enters_of Try.func51 (by kernel_rfl) rfl) iter
    (fun h1 h2 => h1.trans h2) (frK (Nat.le_refl _)) (Below.refl _ _) (fun _ => rfl)
    (fun pre V => J (cells pre) V ∧ Fr (fun k => S k ∨ w.heap.size ≤ k) W V ∧ V.heap[W.heap.size]? = some (.cells #[.func (.yield l) #[] #[]] 81 (0, 0)))
    (fun c pre V => c = .ret ∧ ∃ L, L <+: cells (enr ls 0 n) ∧ L ≠ [] ∧ Jx L V) ?hI ?hIx ⟨hji, Fr.ofBelow bi _, e0⟩ ?round ?done ?stop
  case hI =>
    refine OwnFrom.and (fun s A B row hs hg hr => ownFrom_mono hJ (by omega) (cells s) A B row hs hg hr) (OwnFrom.and ?_ (own_heap (by omega) _))
    exact fun s A B row hs hg hr => Fr.grown hs hg (fun k e _ => .inr (by have := (hr k e).1; omega))
  case hIx =>
    rintro c s A B row ⟨hc, L, h1, h2, h3⟩ hg hr
    exact ⟨hc, L, h1, h2, ownFrom_mono hJx (by omega) L A B row h3 hg hr⟩
  case stop =>
    rintro D c pre V hD hpre hne ⟨rfl, L, h1, h2, hjx⟩ hk
    gi_wp2
    refine ⟨by simp, .inl ⟨_, _, rfl, run_takeDeferred hk, ?_⟩⟩
    refine ⟨_, results_none rfl _ _ _, ⟨_, rfl⟩, .inr ⟨L, h1, h2, hJx.putObj _ hjx (by omega) hk rfl⟩⟩
  case done =>
    rintro D V hD ⟨hj, hB, _⟩ hk
    gi_wp2
    refine ⟨by simp, .inl ⟨_, _, rfl, run_takeDeferred hk, ?_⟩⟩
    refine ⟨_, results_none rfl _ _ _, ⟨_, rfl⟩, .inl ?_⟩
    exact hJ.putObj (.deferred none) hj (by omega) hk rfl
  case round =>
    rintro l' pre x V0 ⟨rest, hpr⟩ hsz0 hi0
    obtain ⟨hk, rfl⟩ := enr_at hpr
    obtain ⟨i, hi⟩ : ∃ i, i = 0 + pre.length := ⟨_, rfl⟩
    rw [← hi] at hpr ⊢
    obtain ⟨st, hst⟩ : ∃ st, st = lineAt ls i := ⟨_, rfl⟩
    rw [← hst] at hpr ⊢
    have hstz : st.size ≤ 140737488355328 := by
      have hil : i < ls.length := by omega
      rw [hst, lineAt_get hil]; exact hs _ (List.getElem_mem hil)
    have HPR := Lib.hid hpr
    clear hi hst hpr
    dsimp only [enc2]
    gi_wp2
    refine ⟨Keep.refl _ _ _, Fr.refl _ _, hi0, ?_⟩
    rintro V - - - hszV ⟨hj, hF, hy0⟩
    clear hi0
    have HV := Lib.hid (And.intro hj (And.intro hF hy0))
    clear hj hF hy0
    gi_wp2
    gi_loopw [15] (fun u wr => ∃ j : Nat, j ≤ st.size ∧ u = .int .i64 j ∧ Hid (J (cells pre ++ (lcell (i, st)).take j) wr ∧ Fr (fun k => S k ∨ w.heap.size ≤ k) V wr ∧ Keep W.heap.size (W.heap.size + 6) V wr)) (fun u _ => st.size - (RowKit.intOf u).toNat)
    case atStart => exact ⟨0, Nat.zero_le _, rfl, by rw [List.take_zero, List.append_nil]; exact HV.out.1, Fr.refl _ _, Keep.refl _ _ _⟩
    case round =>
      obtain ⟨j, hj, rfl, hR⟩ := hrel
      obtain ⟨hJr, hFr, hKr⟩ := hR.out
      have hyr : wr.heap[W.heap.size]? = some (.cells #[.func (.yield l) #[] #[]] 81 (0, 0)) := (hKr.same _ (Nat.le_refl _) (by omega)).trans HV.out.2.2
      have y0 : wr.cell? ⟨W.heap.size, 0, none⟩ = some (.func (.yield l) #[] #[]) := (cell_of_row wr _ 0 _ _ _ hyr).trans (by simp)
      by_cases hjn : j < st.size
      · obtain ⟨hall, hnx⟩ := cells_step HPR.out j hjn
        have hJd : J (cells pre ++ (lcell (i, st)).take j) wr.drew := hJ _ _ _ none hJr ⟨rfl, rfl, rfl, Nat.le_refl _, fun _ _ _ => rfl⟩ (by simp)
        obtain ⟨fn, tmps, assign, body, hy, hRd⟩ := hY (cells pre ++ (lcell (i, st)).take j) ((i, j), st[j]) wr.drew hall (by have := hKr.size; show W.heap.size + 6 ≤ wr.heap.size; omega) hJd
        have HRD := Lib.hid hRd
        have HN := Lib.hid hnx
        have HALL := Lib.hid hall
        have HFK := Lib.hid (And.intro hFr hKr)
        dsimp only [encc] at hy
        clear hJr hFr hKr hyr hJd hRd hnx hall hR
        gi_wp2
        refine wpIn_round_head 7 hmx (by kernel_rfl) (by kernel_rfl) ?_
        simp only [List.take_succ_cons, List.take_zero, List.drop_succ_cons, List.drop_zero]
        repeat still_step
        refine wpStill_nil ?_
        gi_wp2
        refine (roundIn_in l' HRD.out).mono ?_
        rintro e V3 ⟨hkeep, hor⟩
        obtain ⟨bv, rfl, HOR⟩ : ∃ bv : Bool, e = .returned (.bool bv) ∧ Hid (if bv = true then J ((cells pre ++ (lcell (i, st)).take j) ++ [((i, j), st[j])]) V3 ∧ Fr (fun k => S k ∨ w.heap.size ≤ k) wr.drew V3 else Jx ((cells pre ++ (lcell (i, st)).take j) ++ [((i, j), st[j])]) V3) := by
          rcases hor with ⟨h1, h2, h3⟩ | ⟨h1, h2⟩
          · exact ⟨true, h1, ⟨h2, h3⟩⟩
          · exact ⟨false, h1, h2⟩
        have HKP := Lib.hid hkeep
        clear hkeep hor
        all_goals
          clear hy y0
          cases bv
          · gi_wp2
            have hjx : Jx ((cells pre ++ (lcell (i, st)).take j) ++ [((i, j), st[j])]) V3 := HOR.out
            refine ⟨(HFK.out.2.drew.trans HKP.out).mono (by omega) (by omega), rfl, _, ?_, by simp, hjx⟩
            obtain ⟨r, hr⟩ := HALL.out
            exact ⟨r, by rw [hr, List.append_assoc _ _ r]; rfl⟩
          · gi_wp2
            have hjn2 : J ((cells pre ++ (lcell (i, st)).take j) ++ [((i, j), st[j])]) V3 ∧ Fr (fun k => S k ∨ w.heap.size ≤ k) wr.drew V3 := HOR.out
            refine ⟨⟨j + 1, by omega, by go_num, ?_, HFK.out.1.drew.trans hjn2.2, HFK.out.2.drew.trans HKP.out⟩, by simp [RowKit.intOf]; omega⟩
            rw [HN.out, ← List.append_assoc]
            exact hjn2.1
      · obtain rfl : j = st.size := by omega
        have HE := Lib.hid (And.intro hJr (And.intro hFr (And.intro hKr hyr)))
        clear y0 hyr hJr hFr hKr hR
        gi_wp2
        obtain ⟨hJr, hFr, hKr, hyr⟩ := HE.out
        refine ⟨hKr.mono (by omega) (by omega), ?_, ?_, HV.out.2.1.trans hFr, hyr⟩
        · exact (Fr.keep hFr hKr (j := 4) (by omega)).mono (fun k _ e => e.elim .inl (fun e => .inr (by omega)))
        · rw [cells_snoc]
          rw [show st.size = (lcell (i, st)).length from (lcell_length (i, st)).symm, List.take_length] at hJr
          exact hJr

end Go.Proofs.Ytnngcminomooeaa.So
